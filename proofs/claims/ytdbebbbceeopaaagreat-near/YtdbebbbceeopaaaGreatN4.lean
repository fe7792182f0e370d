import Derived.Test.YtdbebbbceeopaaaGreatN2
import Derived.Test.YtdbebbbceeopaaaGreatN3
set_option linter.unusedSimpArgs false
namespace Go.Proofs.YtdbebbbceeopaaaGreat.Geo
variable {Pos : Int → Int → Prop} {px py : Nat → Int} {n : Nat}

/-- The sides of a walk, its end first. -/
def Ed : List Nat → Nat → Nat → Prop
  | l :: b :: s, u, v => (u = b ∧ v = l) ∨ Ed (b :: s) u v
  | _, _, _ => False

/-- A walk all of whose sides have all of r to the left, or on them. -/
def Gd (Pos : Int → Int → Prop) (px py : Nat → Int) (r : List Nat) : List Nat → Prop
  | l :: b :: s => Lt Pos px py b l ∧ (∀ p ∈ r, 0 ≤ T px py b l p) ∧ Gd Pos px py r (b :: s)
  | _ => True

/-- A triangle put in. -/
def addT (A : Nat → Nat → Option Nat) (a b c : Nat) : Nat → Nat → Option Nat := fun u v =>
  if u = a ∧ v = b then some c else if u = b ∧ v = c then some a else if u = c ∧ v = a then some b else A u v

/-- What lies beneath a walk: as far as areas are reckoned side by side. -/
def c2 (px py : Nat → Int) (u v : Nat) : Int := px u * py v - py u * px v

def shs (px py : Nat → Int) : List Nat → Int
  | l :: b :: s => c2 px py b l + shs px py (b :: s)
  | _ => 0

theorem addT_keep {A : Nat → Nat → Option Nat} {a b c u v : Nat} (h : A u v ≠ none) : addT A a b c u v ≠ none := by
  unfold addT
  split
  · simp
  · split
    · simp
    · split
      · simp
      · exact h

theorem addT_old {A : Nat → Nat → Option Nat} {a b c u v : Nat} (h1 : ¬ (u = a ∧ v = b)) (h2 : ¬ (u = b ∧ v = c)) (h3 : ¬ (u = c ∧ v = a)) : addT A a b c u v = A u v := by
  unfold addT
  rw [if_neg h1, if_neg h2, if_neg h3]

theorem addT_cases {A : Nat → Nat → Option Nat} {a b c u v w : Nat} (h : addT A a b c u v = some w) : (u = a ∧ v = b ∧ w = c) ∨ (u = b ∧ v = c ∧ w = a) ∨ (u = c ∧ v = a ∧ w = b) ∨ A u v = some w := by
  unfold addT at h
  split at h
  · rename_i k; cases h; exact .inl ⟨k.1, k.2, rfl⟩
  · split at h
    · rename_i k; cases h; exact .inr (.inl ⟨k.1, k.2, rfl⟩)
    · split at h
      · rename_i k; cases h; exact .inr (.inr (.inl ⟨k.1, k.2, rfl⟩))
      · exact .inr (.inr (.inr h))

theorem addT_1 (A : Nat → Nat → Option Nat) (a b c : Nat) : addT A a b c a b = some c := by unfold addT; simp
theorem addT_2 (A : Nat → Nat → Option Nat) (a b c : Nat) (_h : a ≠ b) : addT A a b c b c = some a := by unfold addT; rw [if_neg (by omega), if_pos ⟨rfl, rfl⟩]
theorem addT_3 (A : Nat → Nat → Option Nat) (a b c : Nat) (_h : a ≠ c) (h' : b ≠ c) : addT A a b c c a = some b := by unfold addT; rw [if_neg (by omega), if_neg (by omega), if_pos ⟨rfl, rfl⟩]

theorem addT_cyc {A : Nat → Nat → Option Nat} {a b c : Nat} (hc : ∀ u v w, A u v = some w → A v w = some u) (h1 : a ≠ b) (h2 : a ≠ c) (h3 : b ≠ c) (k1 : A a b = none) (k2 : A b c = none) (k3 : A c a = none) :
    ∀ u v w, addT A a b c u v = some w → addT A a b c v w = some u := by
  intro u v w h
  rcases addT_cases h with ⟨rfl, rfl, rfl⟩ | ⟨rfl, rfl, rfl⟩ | ⟨rfl, rfl, rfl⟩ | h'
  · exact addT_2 A _ _ _ h1
  · exact addT_3 A _ _ _ h2 h3
  · exact addT_1 A _ _ _
  · have := hc _ _ _ h'
    rw [addT_old]
    · exact this
    · rintro ⟨rfl, rfl⟩; rw [k1] at this; cases this
    · rintro ⟨rfl, rfl⟩; rw [k2] at this; cases this
    · rintro ⟨rfl, rfl⟩; rw [k3] at this; cases this

theorem addT_sum {A : Nat → Nat → Option Nat} {a b c : Nat} (K : Nat → Nat → Nat → Int) (h1 : a ≠ b) (h2 : a ≠ c) (h3 : b ≠ c) (k1 : A a b = none) (k2 : A b c = none) (k3 : A c a = none) (la : a < n) (lb : b < n) (lc : c < n) :
    Sd n (addT A a b c) K = Sd n A K + (K a b c + K b c a + K c a b) := by
  have := sm2_diff (n := n) [(a, b), (b, c), (c, a)] (fun u v => el (addT A a b c u v) fun w => K u v w) (fun u v => el (A u v) fun w => K u v w)
    (by simp only [List.nodup_cons, List.mem_cons, Prod.mk.injEq, List.not_mem_nil, or_false, not_or, List.nodup_nil, and_true, not_false_eq_true]; omega)
    (by
      intro k hk
      simp only [List.mem_cons, List.not_mem_nil, or_false] at hk
      rcases hk with rfl | rfl | rfl <;> (dsimp only; omega))
    (by
      intro u v _ _ hn
      simp only [List.mem_cons, Prod.mk.injEq, List.not_mem_nil, or_false, not_or] at hn
      rw [addT_old hn.1 hn.2.1 hn.2.2])
  simp only [List.map_cons, List.map_nil, List.sum_cons, List.sum_nil, addT_1, addT_2 A a b c h1, addT_3 A a b c h2 h3, k1, k2, k3, el_some, el_none] at this
  unfold Sd
  omega

theorem Ed.mem : ∀ {s : List Nat} {u v : Nat}, Ed s u v → u ∈ s ∧ v ∈ s
  | l :: b :: s, u, v, h => by
    rcases h with ⟨rfl, rfl⟩ | h
    · exact ⟨by simp, by simp⟩
    · have := Ed.mem h
      exact ⟨List.mem_cons_of_mem _ this.1, List.mem_cons_of_mem _ this.2⟩

theorem Gd.below (H : Half Pos) {r : List Nat} : ∀ {s : List Nat} {l : Nat}, Gd Pos px py r (l :: s) → ∀ y ∈ s, Lt Pos px py y l
  | [], _, _, y, hy => by cases hy
  | b :: s, l, h, y, hy => by
    rcases List.mem_cons.1 hy with rfl | hy
    · exact h.1
    · exact (Gd.below H h.2.2 y hy).trans H h.1

theorem Gd.side {r : List Nat} : ∀ {s : List Nat}, Gd Pos px py r s → ∀ u v, Ed s u v → Lt Pos px py u v ∧ ∀ p ∈ r, 0 ≤ T px py u v p
  | l :: b :: s, h, u, v, he => by
    rcases he with ⟨rfl, rfl⟩ | he
    · exact ⟨h.1, h.2.1⟩
    · exact Gd.side h.2.2 u v he

/-- All that is known between two points of a sweep: r has all that were seen, the last first; s is the walk, its end first; A has the triangles. -/
structure Inv (Pos : Int → Int → Prop) (px py : Nat → Int) (n : Nat) (last : Nat) (r s : List Nat) (A : Nat → Nat → Option Nat) : Prop where
  sub : ∀ y ∈ last :: s, y ∈ last :: r
  bot : ∀ m, (last :: s).getLast? = some m → ∀ p ∈ last :: r, p = m ∨ Lt Pos px py m p
  gd : Gd Pos px py (last :: r) (last :: s)
  cyc : ∀ u v w, A u v = some w → A v w = some u
  pos : ∀ u v w, A u v = some w → 0 < T px py u v w
  mem : ∀ u v w, A u v = some w → u ∈ last :: r
  btw : ∀ u v w, A u v = some w → Lt Pos px py u v → Lt Pos px py u w ∧ Lt Pos px py w v
  f4 : ∀ u v w, A u v = some w → Lt Pos px py u v → A v u ≠ none ∨ Ed (last :: s) u v
  f5 : ∀ u v, Ed (last :: s) u v → A v u = none
  f6 : ∀ u v w, A v u = some w → Lt Pos px py u v → A u v ≠ none ∨ Ed (last :: r) u v
  f7 : ∀ u v, Ed (last :: s) u v → A u v ≠ none ∨ Ed (last :: r) u v
  f8 : ∀ u v, Ed (last :: r) u v → A v u ≠ none ∨ Ed (last :: s) u v
  f9 : ∀ u v w, A u v = some w → Lt Pos px py u v → ∀ p ∈ last :: r, Lt Pos px py u p → Lt Pos px py p v → 0 ≤ T px py u v p
  ar : Sd n A (fun u v _ => c2 px py u v) = shs px py (last :: s) - shs px py (last :: r)
  cn : Sd n A (fun _ _ _ => 1) + 3 * ((last :: s).length : Int) = 3 * ((last :: r).length : Int)

/-- All that is known while the walk is made shorter ahead of a new point x. -/
structure Rd (Pos : Int → Int → Prop) (px py : Nat → Int) (n : Nat) (last : Nat) (r : List Nat) (l : Nat) (s : List Nat) (x : Nat) (A : Nat → Nat → Option Nat) : Prop where
  sub : ∀ y ∈ l :: s, y ∈ last :: r
  bot : ∀ m, (l :: s).getLast? = some m → ∀ p ∈ last :: r, p = m ∨ Lt Pos px py m p
  gd : Gd Pos px py (last :: r) (l :: s)
  cyc : ∀ u v w, A u v = some w → A v w = some u
  pos : ∀ u v w, A u v = some w → 0 < T px py u v w
  mem : ∀ u v w, A u v = some w → u ∈ last :: r ∨ u = x
  btw : ∀ u v w, A u v = some w → Lt Pos px py u v → Lt Pos px py u w ∧ Lt Pos px py w v
  f4 : ∀ u v w, A u v = some w → Lt Pos px py u v → A v u ≠ none ∨ Ed (l :: s) u v ∨ (u = l ∧ v = x)
  f5 : ∀ u v, Ed (l :: s) u v → A v u = none
  f6 : ∀ u v w, A v u = some w → Lt Pos px py u v → A u v ≠ none ∨ Ed (x :: last :: r) u v
  f7 : ∀ u v, Ed (l :: s) u v → A u v ≠ none ∨ Ed (last :: r) u v
  g1 : A l x ≠ none ∨ l = last
  f8 : ∀ u v, Ed (last :: r) u v → A v u ≠ none ∨ Ed (l :: s) u v
  g8 : l = last ∨ A x last ≠ none
  f9 : ∀ u v w, A u v = some w → Lt Pos px py u v → ∀ p ∈ last :: r, Lt Pos px py u p → Lt Pos px py p v → 0 ≤ T px py u v p
  g9 : ∀ p ∈ last :: r, Lt Pos px py l p → 0 ≤ T px py l x p
  h1 : ∀ u, A u x ≠ none → u = l ∨ Lt Pos px py l u
  h2 : ∀ u, A x u ≠ none → Lt Pos px py l u
  ar : Sd n A (fun u v _ => c2 px py u v) = shs px py (l :: s) + c2 px py l x - shs px py (x :: last :: r)
  cn : Sd n A (fun _ _ _ => 1) + 3 * ((l :: s).length : Int) = 3 * ((last :: r).length : Int)

theorem rd_start (H : Half Pos) {last x : Nat} {r s : List Nat} {A : Nat → Nat → Option Nat} (h : Inv Pos px py n last r s A) (hx : ∀ p ∈ last :: r, Lt Pos px py p x) (hmax : ∀ p ∈ r, Lt Pos px py p last) : Rd Pos px py n last r last s x A := by
  have hxr : x ∉ last :: r := fun k => lt_irrefl H (hx x k)
  refine ⟨h.sub, h.bot, h.gd, h.cyc, h.pos, fun u v w e => .inl (h.mem u v w e), h.btw, fun u v w e k => ?_, h.f5, fun u v w e k => ?_, h.f7, .inr rfl, h.f8, .inl rfl, h.f9, fun p hp k => ?_, fun u k => ?_, fun u k => ?_, ?_, h.cn⟩
  · rcases h.f4 u v w e k with g | g
    · exact .inl g
    · exact .inr (.inl g)
  · rcases h.f6 u v w e k with g | g
    · exact .inl g
    · exact .inr (.inr g)
  · exfalso
    rcases List.mem_cons.1 hp with rfl | hp
    · exact lt_irrefl H k
    · exact lt_irrefl H ((hmax p hp).trans H k)
  · exfalso
    cases hm : A u x with
    | none => exact k hm
    | some w => exact hxr (h.mem _ _ _ (h.cyc _ _ _ hm))
  · exfalso
    cases hm : A x u with
    | none => exact k hm
    | some w => exact hxr (h.mem _ _ _ hm)
  · have := h.ar
    rw [this]
    show _ = shs px py (last :: s) + c2 px py last x - (c2 px py last x + shs px py (last :: r))
    omega

theorem rd_pop (H : Half Pos) {last x l b : Nat} {r s : List Nat} {A : Nat → Nat → Option Nat} (h : Rd Pos px py n last r l (b :: s) x A) (hx : ∀ p ∈ last :: r, Lt Pos px py p x) (hn : ∀ p ∈ last :: r, p < n) (hxn : x < n)
    (hT : T px py b l x < 0) : Rd Pos px py n last r b s x (addT A b x l) := by
  have hbl : Lt Pos px py b l := h.gd.1
  have lr : l ∈ last :: r := h.sub l (by simp)
  have br : b ∈ last :: r := h.sub b (by simp)
  have hlx := hx l lr
  have hbx := hx b br
  have nbl : b ≠ l := fun e => by subst e; exact lt_irrefl H hbl
  have nlx : l ≠ x := fun e => by subst e; exact lt_irrefl H hlx
  have nbx : b ≠ x := fun e => by subst e; exact lt_irrefl H hbx
  have hxr : ∀ p ∈ last :: r, p ≠ x := fun p hp e => by subst e; exact lt_irrefl H (hx p hp)
  have t1 : 0 < T px py b x l := by rw [T_cyc, T_cyc, T_swap]; omega
  have k1 : A b x = none := by
    cases hm : A b x with
    | none => rfl
    | some w =>
      rcases h.h1 b (by rw [hm]; simp) with e | e
      · exact absurd e nbl
      · exact (lt_irrefl H (e.trans H hbl)).elim
  have k2 : A x l = none := by
    cases hm : A x l with
    | none => rfl
    | some w => exact (lt_irrefl H (h.h2 l (by rw [hm]; simp))).elim
  have k3 : A l b = none := h.f5 b l (.inl ⟨rfl, rfl⟩)
  have notin : ∀ y ∈ b :: s, y ≠ l := fun y hy e => by subst e; exact lt_irrefl H (h.gd.below H y hy)
  refine ⟨fun y hy => h.sub y (List.mem_cons_of_mem _ hy), fun m hm => h.bot m (by rw [List.getLast?_cons_cons]; exact hm), h.gd.2.2, addT_cyc h.cyc nbx nbl (Ne.symm nlx) k1 k2 k3, ?_, ?_, ?_, ?_, ?_, ?_, ?_, ?_, ?_, ?_, ?_, ?_, ?_, ?_, ?_, ?_⟩
  · intro u v w e
    rcases addT_cases e with ⟨rfl, rfl, rfl⟩ | ⟨rfl, rfl, rfl⟩ | ⟨rfl, rfl, rfl⟩ | e'
    · exact t1
    · rw [← T_cyc]; exact t1
    · rw [T_cyc]; exact t1
    · exact h.pos _ _ _ e'
  · intro u v w e
    rcases addT_cases e with ⟨rfl, rfl, rfl⟩ | ⟨rfl, rfl, rfl⟩ | ⟨rfl, rfl, rfl⟩ | e'
    · exact .inl br
    · exact .inr rfl
    · exact .inl lr
    · exact h.mem _ _ _ e'
  · intro u v w e k
    rcases addT_cases e with ⟨rfl, rfl, rfl⟩ | ⟨rfl, rfl, rfl⟩ | ⟨rfl, rfl, rfl⟩ | e'
    · exact ⟨hbl, hlx⟩
    · exact (lt_irrefl H (k.trans H hlx)).elim
    · exact (lt_irrefl H (k.trans H hbl)).elim
    · exact h.btw _ _ _ e' k
  · intro u v w e k
    rcases addT_cases e with ⟨rfl, rfl, rfl⟩ | ⟨rfl, rfl, rfl⟩ | ⟨rfl, rfl, rfl⟩ | e'
    · exact .inr (.inr ⟨rfl, rfl⟩)
    · exact (lt_irrefl H (k.trans H hlx)).elim
    · exact (lt_irrefl H (k.trans H hbl)).elim
    · rcases h.f4 _ _ _ e' k with g | (⟨rfl, rfl⟩ | g) | ⟨rfl, rfl⟩
      · exact .inl (addT_keep g)
      · exact .inl (by rw [addT_3 A _ _ _ nbl (Ne.symm nlx)]; simp)
      · exact .inr (.inl g)
      · exact .inl (by rw [addT_2 A _ _ _ nbx]; simp)
  · intro u v e
    have old := h.f5 u v (.inr e)
    have m := Ed.mem e
    rw [addT_old]
    · exact old
    · rintro ⟨_, e2⟩; exact hxr u (h.sub u (List.mem_cons_of_mem _ m.1)) e2
    · rintro ⟨e1, _⟩; exact hxr v (h.sub v (List.mem_cons_of_mem _ m.2)) e1
    · rintro ⟨e1, _⟩; exact notin v m.2 e1
  · intro u v w e k
    rcases addT_cases e with ⟨e1, e2, e3⟩ | ⟨e1, e2, e3⟩ | ⟨e1, e2, e3⟩ | e'
    · subst e1 e2; exact (lt_irrefl H (k.trans H hbx)).elim
    · subst e1 e2
      rcases h.g1 with g | g
      · exact .inl (addT_keep g)
      · exact .inr (.inl ⟨g, rfl⟩)
    · subst e1 e2
      rcases h.f7 _ _ (.inl ⟨rfl, rfl⟩) with g | g
      · exact .inl (addT_keep g)
      · exact .inr (.inr g)
    · rcases h.f6 _ _ _ e' k with g | g
      · exact .inl (addT_keep g)
      · exact .inr g
  · intro u v e
    rcases h.f7 u v (.inr e) with g | g
    · exact .inl (addT_keep g)
    · exact .inr g
  · exact .inl (by rw [addT_1]; simp)
  · intro u v e
    rcases h.f8 u v e with g | (⟨rfl, rfl⟩ | g)
    · exact .inl (addT_keep g)
    · exact .inl (by rw [addT_3 A _ _ _ nbl (Ne.symm nlx)]; simp)
    · exact .inr g
  · right
    rcases h.g8 with g | g
    · rw [← g, addT_2 A _ _ _ nbx]; simp
    · exact addT_keep g
  · intro u v w e k p hp kp1 kp2
    rcases addT_cases e with ⟨rfl, rfl, rfl⟩ | ⟨rfl, rfl, rfl⟩ | ⟨rfl, rfl, rfl⟩ | e'
    · have e1 : 0 ≤ cr (px v - px u) (py v - py u) (px w - px u) (py w - py u) := by rw [← T_cr]; omega
      have e2 : 0 ≤ cr (px w - px u) (py w - py u) (px p - px u) (py p - py u) := by rw [← T_cr]; exact h.gd.2.1 p hp
      rw [T_cr]
      exact H.tr _ _ _ _ _ _ hbx hbl kp1 e1 e2
    · exact (lt_irrefl H (k.trans H hlx)).elim
    · exact (lt_irrefl H (k.trans H hbl)).elim
    · exact h.f9 _ _ _ e' k p hp kp1 kp2
  · intro p hp kp
    have e1 : 0 ≤ cr (px x - px b) (py x - py b) (px l - px b) (py l - py b) := by rw [← T_cr]; omega
    have e2 : 0 ≤ cr (px l - px b) (py l - py b) (px p - px b) (py p - py b) := by rw [← T_cr]; exact h.gd.2.1 p hp
    rw [T_cr]
    exact H.tr _ _ _ _ _ _ hbx hbl kp e1 e2
  · intro u k
    cases hm : addT A b x l u x with
    | none => exact absurd hm k
    | some w =>
      rcases addT_cases hm with ⟨e1, _, _⟩ | ⟨_, e2, _⟩ | ⟨_, e2, _⟩ | e'
      · exact .inl e1
      · exact absurd e2.symm nlx
      · exact absurd e2.symm nbx
      · rcases h.h1 u (by rw [e']; simp) with g | g
        · subst g; exact .inr hbl
        · exact .inr (hbl.trans H g)
  · intro u k
    cases hm : addT A b x l x u with
    | none => exact absurd hm k
    | some w =>
      rcases addT_cases hm with ⟨e1, _, _⟩ | ⟨_, e2, _⟩ | ⟨e1, _, _⟩ | e'
      · exact absurd e1.symm nbx
      · subst e2; exact hbl
      · exact absurd e1.symm nlx
      · exact hbl.trans H (h.h2 u (by rw [e']; simp))
  · rw [addT_sum _ nbx nbl (Ne.symm nlx) k1 k2 k3 (hn b br) hxn (hn l lr), h.ar]
    show (c2 px py b l + shs px py (b :: s)) + c2 px py l x - shs px py (x :: last :: r) + _ = _
    have e1 : c2 px py x l = - c2 px py l x := by unfold c2; grind
    have e2 : c2 px py l b = - c2 px py b l := by unfold c2; grind
    omega
  · rw [addT_sum _ nbx nbl (Ne.symm nlx) k1 k2 k3 (hn b br) hxn (hn l lr)]
    have := h.cn
    simp only [List.length_cons, Int.natCast_add] at this ⊢
    omega

theorem gd_ext (H : Half Pos) {r : List Nat} {x : Nat} : ∀ {s : List Nat} {l b : Nat}, Gd Pos px py r (l :: b :: s) → (∀ y ∈ l :: b :: s, y ∈ r) → 0 ≤ T px py b l x → Lt Pos px py l x → Gd Pos px py (x :: r) (l :: b :: s)
  | [], l, b, h, _, hx, _ => ⟨h.1, fun p hp => by
      rcases List.mem_cons.1 hp with rfl | hp
      · exact hx
      · exact h.2.1 p hp, trivial⟩
  | c :: s, l, b, h, hin, hx, hlx => by
    refine ⟨h.1, fun p hp => ?_, gd_ext H h.2.2 (fun y hy => hin y (List.mem_cons_of_mem _ hy)) ?_ (h.1.trans H hlx)⟩
    · rcases List.mem_cons.1 hp with rfl | hp
      · exact hx
      · exact h.2.1 p hp
    · have e1 : 0 ≤ cr (px b - px c) (py b - py c) (px l - px b) (py l - py b) := by rw [← T_sh]; exact h.2.2.2.1 l (hin l (by simp))
      have e2 : 0 ≤ cr (px l - px b) (py l - py b) (px x - px l) (py x - py l) := by rw [← T_sh]; exact hx
      have e3 := H.tr _ _ _ _ _ _ h.2.2.1 h.1 hlx e1 e2
      rw [T_sh]
      have e4 : cr (px b - px c) (py b - py c) (px x - px b) (py x - py b) = cr (px b - px c) (py b - py c) (px l - px b) (py l - py b) + cr (px b - px c) (py b - py c) (px x - px l) (py x - py l) := by
        unfold cr; grind
      omega

theorem rd_push (H : Half Pos) {last x l : Nat} {r s : List Nat} {A : Nat → Nat → Option Nat} (h : Rd Pos px py n last r l s x A) (hx : ∀ p ∈ last :: r, Lt Pos px py p x)
    (tri : ∀ p ∈ last :: r, ∀ q ∈ last :: r, p = q ∨ Lt Pos px py p q ∨ Lt Pos px py q p) (hT : ∀ b s', s = b :: s' → 0 ≤ T px py b l x) : Inv Pos px py n x (last :: r) (l :: s) A := by
  have lr : l ∈ last :: r := h.sub l (by simp)
  have hlx := hx l lr
  have hgd : Gd Pos px py (x :: last :: r) (l :: s) := by
    cases s with
    | nil => trivial
    | cons b s => exact gd_ext H h.gd h.sub (hT b s rfl) hlx
  refine ⟨?_, ?_, ⟨hlx, ?_, hgd⟩, h.cyc, h.pos, ?_, h.btw, ?_, ?_, ?_, ?_, ?_, ?_, ?_, ?_⟩
  · intro y hy
    rcases List.mem_cons.1 hy with rfl | hy
    · simp
    · exact List.mem_cons_of_mem _ (h.sub y hy)
  · intro m hm p hp
    rw [List.getLast?_cons_cons] at hm
    have mr : m ∈ last :: r := h.sub m (List.mem_of_getLast? hm)
    rcases List.mem_cons.1 hp with rfl | hp
    · exact .inr (hx m mr)
    · exact h.bot m hm p hp
  · intro p hp
    rcases List.mem_cons.1 hp with rfl | hp
    · rw [T_two]; omega
    · rcases tri p hp l lr with rfl | g | g
      · rw [T_one]; omega
      · cases s with
        | nil =>
          rcases h.bot l rfl p hp with rfl | k
          · exact (lt_irrefl H g).elim
          · exact (lt_irrefl H (g.trans H k)).elim
        | cons b s =>
          have e1 : 0 ≤ cr (px l - px p) (py l - py p) (px l - px b) (py l - py b) := by rw [← T_back]; exact h.gd.2.1 p hp
          have e2 : 0 ≤ cr (px l - px b) (py l - py b) (px x - px l) (py x - py l) := by rw [← T_sh]; exact hT b s rfl
          rw [T_on]
          exact H.tr _ _ _ _ _ _ g h.gd.1 hlx e1 e2
      · exact h.g9 p hp g
  · intro u v w e
    rcases h.mem _ _ _ e with g | rfl
    · exact List.mem_cons_of_mem _ g
    · simp
  · intro u v w e k
    rcases h.f4 _ _ _ e k with g | g | ⟨rfl, rfl⟩
    · exact .inl g
    · exact .inr (.inr g)
    · exact .inr (.inl ⟨rfl, rfl⟩)
  · intro u v e
    rcases e with ⟨rfl, rfl⟩ | e
    · cases hm : A v u with
      | none => rfl
      | some w => exact (lt_irrefl H (h.h2 u (by rw [hm]; simp))).elim
    · exact h.f5 u v e
  · intro u v w e k
    exact h.f6 _ _ _ e k
  · intro u v e
    rcases e with ⟨rfl, rfl⟩ | e
    · rcases h.g1 with g | g
      · exact .inl g
      · exact .inr (.inl ⟨g, rfl⟩)
    · rcases h.f7 u v e with g | g
      · exact .inl g
      · exact .inr (.inr g)
  · intro u v e
    rcases e with ⟨rfl, rfl⟩ | e
    · rcases h.g8 with g | g
      · exact .inr (.inl ⟨g.symm, rfl⟩)
      · exact .inl g
    · rcases h.f8 u v e with g | g
      · exact .inl g
      · exact .inr (.inr g)
  · intro u v w e k p hp kp1 kp2
    rcases List.mem_cons.1 hp with rfl | hp
    · exfalso
      rcases h.mem _ _ _ (h.cyc _ _ _ e) with g | g
      · exact lt_irrefl H ((hx v g).trans H kp2)
      · subst g; exact lt_irrefl H kp2
    · exact h.f9 _ _ _ e k p hp kp1 kp2
  · rw [h.ar]
    show _ = (c2 px py l x + shs px py (l :: s)) - _
    omega
  · have := h.cn
    simp only [List.length_cons, Int.natCast_add] at this ⊢
    omega

end Go.Proofs.YtdbebbbceeopaaaGreat.Geo

set_option linter.unusedSimpArgs false
namespace Go.Proofs.YtdbebbbceeopaaaGreat.Geo
variable {Pos Pos2 : Int → Int → Prop} {px py : Nat → Int} {n : Nat}

/-- The walk made shorter ahead of x, and the triangles that it leaves out. -/
def popF (px py : Nat → Int) (x : Nat) : (Nat → Nat → Option Nat) → List Nat → (Nat → Nat → Option Nat) × List Nat
  | A, l :: b :: s => if T px py b l x < 0 then popF px py x (addT A b x l) (b :: s) else (A, l :: b :: s)
  | A, [l] => (A, [l])
  | A, [] => (A, [])

/-- All of a sweep. -/
def sweep (px py : Nat → Int) : (Nat → Nat → Option Nat) → List Nat → List Nat → (Nat → Nat → Option Nat) × List Nat
  | A, s, [] => (A, s)
  | A, s, x :: os => sweep px py (popF px py x A s).1 (x :: (popF px py x A s).2) os

theorem pop_inv (H : Half Pos) {last x : Nat} {r : List Nat} (hx : ∀ p ∈ last :: r, Lt Pos px py p x) (hn : ∀ p ∈ last :: r, p < n) (hxn : x < n)
    (tri : ∀ p ∈ last :: r, ∀ q ∈ last :: r, p = q ∨ Lt Pos px py p q ∨ Lt Pos px py q p) : ∀ (s : List Nat) (l : Nat) (A : Nat → Nat → Option Nat), Rd Pos px py n last r l s x A →
    Inv Pos px py n x (last :: r) (popF px py x A (l :: s)).2 (popF px py x A (l :: s)).1
  | [], l, A, h => rd_push H h hx tri (fun b s' e => by cases e)
  | b :: s, l, A, h => by
    unfold popF
    by_cases hT : T px py b l x < 0
    · rw [if_pos hT]
      exact pop_inv H hx hn hxn tri s b _ (rd_pop H h hx hn hxn hT)
    · rw [if_neg hT]
      exact rd_push H h hx tri (fun b' s' e => by cases e; omega)

theorem sweep_inv (H : Half Pos) : ∀ (os : List Nat) (last : Nat) (r s : List Nat) (A : Nat → Nat → Option Nat), Inv Pos px py n last r s A → (os.reverse ++ last :: r).Pairwise (fun a b => Lt Pos px py b a) → (∀ p ∈ os.reverse ++ last :: r, p < n) →
    ∃ last' r' s', (sweep px py A (last :: s) os).2 = last' :: s' ∧ last' :: r' = os.reverse ++ last :: r ∧ Inv Pos px py n last' r' s' (sweep px py A (last :: s) os).1
  | [], last, r, s, A, h, _, _ => ⟨last, r, s, rfl, rfl, h⟩
  | x :: os, last, r, s, A, h, hp, hn => by
    have e : (x :: os).reverse ++ last :: r = os.reverse ++ x :: last :: r := by simp
    rw [e] at hp hn
    have hp2 : (x :: last :: r).Pairwise (fun a b => Lt Pos px py b a) := (List.pairwise_append.1 hp).2.1
    have hp3 := List.pairwise_cons.1 hp2
    have hp4 := List.pairwise_cons.1 hp3.2
    have tri : ∀ p ∈ last :: r, ∀ q ∈ last :: r, p = q ∨ Lt Pos px py p q ∨ Lt Pos px py q p := by
      intro p hpm q hqm
      obtain ⟨i, hi, rfl⟩ := List.getElem_of_mem hpm
      obtain ⟨j, hj, rfl⟩ := List.getElem_of_mem hqm
      rcases Nat.lt_trichotomy i j with k | k | k
      · exact .inr (.inr (List.pairwise_iff_getElem.1 hp3.2 i j hi hj k))
      · subst k; exact .inl rfl
      · exact .inr (.inl (List.pairwise_iff_getElem.1 hp3.2 j i hj hi k))
    have hI := pop_inv H (n := n) hp3.1 (fun p hpm => hn p (List.mem_append_right _ (List.mem_cons_of_mem _ hpm))) (hn x (by simp)) tri s last A (rd_start H h hp3.1 hp4.1)
    obtain ⟨last', r', s', q1, q2, q3⟩ := sweep_inv H os x (last :: r) _ _ hI hp hn
    exact ⟨last', r', s', q1, by rw [q2]; simp, q3⟩

end Go.Proofs.YtdbebbbceeopaaaGreat.Geo

set_option linter.unusedSimpArgs false
namespace Go.Proofs.YtdbebbbceeopaaaGreat.Geo
variable {Pos Pos2 : Int → Int → Prop} {px py : Nat → Int} {n : Nat}

theorem Ed_snoc : ∀ (l : List Nat) (x u v : Nat), Ed (l ++ [x]) u v ↔ Ed l u v ∨ (l.getLast? = some v ∧ u = x)
  | [], x, u, v => by simp [Ed]
  | [a], x, u, v => by simp [Ed]; omega
  | a :: b :: s, x, u, v => by
    have ih := Ed_snoc (b :: s) x u v
    rw [List.getLast?_cons_cons]
    simp only [List.cons_append] at ih ⊢
    show ((u = b ∧ v = a) ∨ Ed (b :: (s ++ [x])) u v) ↔ ((u = b ∧ v = a) ∨ Ed (b :: s) u v) ∨ _
    rw [ih, or_assoc]

theorem Ed_rev : ∀ (l : List Nat) (u v : Nat), Ed l.reverse u v ↔ Ed l v u
  | [], u, v => by simp [Ed]
  | [a], u, v => by simp [Ed]
  | a :: b :: s, u, v => by
    rw [List.reverse_cons, Ed_snoc, Ed_rev (b :: s) u v]
    show _ ↔ ((v = b ∧ u = a) ∨ Ed (b :: s) v u)
    simp
    constructor
    · rintro (h | ⟨h1, h2⟩)
      · exact .inr h
      · exact .inl ⟨h1.symm, h2⟩
    · rintro (⟨h1, h2⟩ | h)
      · exact .inr ⟨h1.symm, h2⟩
      · exact .inl h

theorem c2_anti (u v : Nat) : c2 px py v u = - c2 px py u v := by unfold c2; grind

theorem shs_snoc : ∀ (l : List Nat) (x y : Nat), l.getLast? = some y → shs px py (l ++ [x]) = shs px py l + c2 px py x y
  | [], x, y, h => by cases h
  | [a], x, y, h => by
    simp at h
    subst h
    show c2 px py x a + 0 = 0 + c2 px py x a
    omega
  | a :: b :: s, x, y, h => by
    rw [List.getLast?_cons_cons] at h
    have ih := shs_snoc (b :: s) x y h
    simp only [List.cons_append] at ih ⊢
    show c2 px py b a + shs px py (b :: (s ++ [x])) = c2 px py b a + shs px py (b :: s) + _
    omega

theorem shs_rev : ∀ (l : List Nat), shs px py l.reverse = - shs px py l
  | [] => rfl
  | [a] => rfl
  | a :: b :: s => by
    rw [List.reverse_cons, shs_snoc _ a b (by simp), shs_rev (b :: s)]
    show _ = - (c2 px py b a + shs px py (b :: s))
    have := c2_anti (px := px) (py := py) a b
    omega

theorem Ed_nb : ∀ (l : List Nat) (p : Nat), p ∈ l → 2 ≤ l.length → ∃ v, Ed l p v ∨ Ed l v p
  | [], p, h, _ => by cases h
  | [a], p, _, h => by simp at h
  | [a, b], p, h, _ => by
    simp at h
    rcases h with rfl | rfl
    · exact ⟨b, .inr (.inl ⟨rfl, rfl⟩)⟩
    · exact ⟨a, .inl (.inl ⟨rfl, rfl⟩)⟩
  | a :: b :: c :: s, p, h, _ => by
    rcases List.mem_cons.1 h with rfl | h
    · exact ⟨b, .inr (.inl ⟨rfl, rfl⟩)⟩
    · obtain ⟨v, hv⟩ := Ed_nb (b :: c :: s) p h (by simp)
      rcases hv with hv | hv
      · exact ⟨v, .inl (.inr hv)⟩
      · exact ⟨v, .inr (.inr hv)⟩

theorem Ed_con (H : Half Pos) : ∀ (l : List Nat), l.Pairwise (fun a b => Lt Pos px py b a) → ∀ u v, Ed l u v → Lt Pos px py u v ∧ ∀ w ∈ l, ¬ (Lt Pos px py u w ∧ Lt Pos px py w v)
  | [], _, u, v, h => by cases h
  | [a], _, u, v, h => by cases h
  | a :: b :: s, hp, u, v, h => by
    have h1 := List.pairwise_cons.1 hp
    have h2 := List.pairwise_cons.1 h1.2
    rcases h with ⟨rfl, rfl⟩ | h
    · refine ⟨h1.1 u (by simp), fun w hw k => ?_⟩
      rcases List.mem_cons.1 hw with rfl | hw
      · exact lt_irrefl H k.2
      · rcases List.mem_cons.1 hw with rfl | hw
        · exact lt_irrefl H k.1
        · exact lt_irrefl H ((h2.1 w hw).trans H k.1)
    · obtain ⟨g1, g2⟩ := Ed_con H (b :: s) h1.2 u v h
      refine ⟨g1, fun w hw k => ?_⟩
      rcases List.mem_cons.1 hw with rfl | hw
      · exact lt_irrefl H ((h1.1 v (Ed.mem h).2).trans H k.2)
      · exact g2 w hw k

/-- Triangles of one kind over those of another. -/
def ov (A B : Nat → Nat → Option Nat) : Nat → Nat → Option Nat := fun u v => match A u v with | some w => some w | none => B u v

theorem addT_ov (A B : Nat → Nat → Option Nat) (a b c : Nat) : addT (ov A B) a b c = ov (addT A a b c) B := by
  funext u v
  unfold addT ov
  by_cases h1 : u = a ∧ v = b
  · simp only [if_pos h1]
  · by_cases h2 : u = b ∧ v = c
    · simp only [if_neg h1, if_pos h2]
    · by_cases h3 : u = c ∧ v = a
      · simp only [if_neg h1, if_neg h2, if_pos h3]
      · simp only [if_neg h1, if_neg h2, if_neg h3]

theorem popF_ov (x : Nat) (B : Nat → Nat → Option Nat) : ∀ (s : List Nat) (A : Nat → Nat → Option Nat), popF px py x (ov A B) s = (ov (popF px py x A s).1 B, (popF px py x A s).2)
  | [], A => rfl
  | [a], A => rfl
  | l :: b :: s, A => by
    unfold popF
    by_cases hT : T px py b l x < 0
    · rw [if_pos hT, if_pos hT, addT_ov, popF_ov x B (b :: s)]
    · rw [if_neg hT, if_neg hT]

theorem sweep_ov (B : Nat → Nat → Option Nat) : ∀ (os s : List Nat) (A : Nat → Nat → Option Nat), sweep px py (ov A B) s os = (ov (sweep px py A s os).1 B, (sweep px py A s os).2)
  | [], s, A => rfl
  | x :: os, s, A => by
    unfold sweep
    rw [popF_ov, sweep_ov B os]

/-- Two sweeps, the one there, the other back. -/
structure Two (Pos Pos2 : Int → Int → Prop) (px py : Nat → Int) (n : Nat) (l1 : Nat) (r1 s1 : List Nat) (A1 : Nat → Nat → Option Nat) (l2 : Nat) (r2 s2 : List Nat) (A2 : Nat → Nat → Option Nat) : Prop where
  i : Inv Pos px py n l1 r1 s1 A1
  j : Inv Pos2 px py n l2 r2 s2 A2
  flip : ∀ a b, Lt Pos2 px py a b ↔ Lt Pos px py b a
  ed : ∀ u v, Ed (l1 :: r1) u v ↔ Ed (l2 :: r2) v u
  mem : ∀ p, p ∈ l1 :: r1 ↔ p ∈ l2 :: r2
  tri : ∀ p ∈ l1 :: r1, ∀ q ∈ l1 :: r1, p = q ∨ Lt Pos px py p q ∨ Lt Pos px py q p
  con : ∀ u v, Ed (l1 :: r1) u v → ∀ w ∈ l1 :: r1, ¬ (Lt Pos px py u w ∧ Lt Pos px py w v)

variable {l1 l2 : Nat} {r1 s1 r2 s2 : List Nat} {A1 A2 : Nat → Nat → Option Nat}

theorem Two.symm (h : Two Pos Pos2 px py n l1 r1 s1 A1 l2 r2 s2 A2) : Two Pos2 Pos px py n l2 r2 s2 A2 l1 r1 s1 A1 :=
  ⟨h.j, h.i, fun a b => (h.flip b a).symm, fun u v => (h.ed v u).symm, fun p => (h.mem p).symm, fun p hp q hq => by
    rcases h.tri p ((h.mem p).2 hp) q ((h.mem q).2 hq) with g | g | g
    · exact .inl g
    · exact .inr (.inr ((h.flip q p).2 g))
    · exact .inr (.inl ((h.flip p q).2 g)), fun u v e w hw k => h.con v u ((h.ed v u).2 e) w ((h.mem w).2 hw) ⟨(h.flip w v).1 k.2, (h.flip u w).1 k.1⟩⟩

theorem Inv.mems {last : Nat} {r s : List Nat} {A : Nat → Nat → Option Nat} (h : Inv Pos px py n last r s A) {u v w : Nat} (e : A u v = some w) : u ∈ last :: r ∧ v ∈ last :: r ∧ w ∈ last :: r :=
  ⟨h.mem _ _ _ e, h.mem _ _ _ (h.cyc _ _ _ e), h.mem _ _ _ (h.cyc _ _ _ (h.cyc _ _ _ e))⟩

theorem Two.dis1 (h : Two Pos Pos2 px py n l1 r1 s1 A1 l2 r2 s2 A2) {u v w : Nat} (e : A1 u v = some w) (k : Lt Pos px py u v) : A2 u v = none := by
  cases hm : A2 u v with
  | none => rfl
  | some w' =>
    exfalso
    obtain ⟨b1, b2⟩ := h.i.btw _ _ _ e k
    have hw := (h.i.mems e).2.2
    have p := h.i.pos _ _ _ e
    rcases h.j.f6 v u w' hm ((h.flip v u).2 k) with g | g
    · cases hz : A2 v u with
      | none => exact g hz
      | some z =>
        have := h.j.f9 v u z hz ((h.flip v u).2 k) w ((h.mem w).1 hw) ((h.flip v w).2 b2) ((h.flip w u).2 b1)
        rw [T_swap] at this
        omega
    · exact h.con u v ((h.ed u v).2 g) w hw ⟨b1, b2⟩

theorem Two.ne (h : Two Pos Pos2 px py n l1 r1 s1 A1 l2 r2 s2 A2) {u v w : Nat} (e : A1 u v = some w) : Lt Pos px py u v ∨ Lt Pos px py v u := by
  have m := h.i.mems e
  rcases h.tri u m.1 v m.2.1 with g | g | g
  · exact absurd g (T_ne12 (h.i.pos _ _ _ e))
  · exact .inl g
  · exact .inr g

/-- No side is in both. -/
theorem Two.dis (h : Two Pos Pos2 px py n l1 r1 s1 A1 l2 r2 s2 A2) {u v w : Nat} (e : A1 u v = some w) : A2 u v = none := by
  rcases h.ne e with k | k
  · exact h.dis1 e k
  · cases hm : A2 u v with
    | none => rfl
    | some w' =>
      have := h.symm.dis1 hm ((h.flip u v).2 k)
      rw [this] at e
      cases e

theorem ov_old {A B : Nat → Nat → Option Nat} {u v w : Nat} (h : ov A B u v = some w) : A u v = some w ∨ B u v = some w := by
  unfold ov at h
  cases hm : A u v with
  | none => rw [hm] at h; exact .inr h
  | some z => rw [hm] at h; exact .inl h

theorem ov_none {A B : Nat → Nat → Option Nat} {u v : Nat} (h : ov A B u v = none) : A u v = none ∧ B u v = none := by
  unfold ov at h
  cases hm : A u v with
  | none => rw [hm] at h; exact ⟨rfl, h⟩
  | some z => rw [hm] at h; cases h

theorem ov_left {A B : Nat → Nat → Option Nat} {u v w : Nat} (h : A u v = some w) : ov A B u v = some w := by unfold ov; rw [h]
theorem ov_right {A B : Nat → Nat → Option Nat} {u v w : Nat} (h' : A u v = none) (h : B u v = some w) : ov A B u v = some w := by unfold ov; rw [h']; exact h

/-- A side with no triangle to its right is one of the walks'. -/
theorem Two.bd (h : Two Pos Pos2 px py n l1 r1 s1 A1 l2 r2 s2 A2) {u v w : Nat} (e : A1 u v = some w) (k1 : A1 v u = none) (k2 : A2 v u = none) : Ed (l1 :: s1) u v ∨ Ed (l2 :: s2) u v := by
  rcases h.ne e with k | k
  · rcases h.i.f4 _ _ _ e k with g | g
    · exact absurd k1 g
    · exact .inl g
  · rcases h.i.f6 v u w e k with g | g
    · exact absurd k1 g
    · rcases h.j.f8 u v ((h.ed v u).1 g) with g' | g'
      · exact absurd k2 g'
      · exact .inr g'

theorem Ed_uni (H : Half Pos) (hm : ∀ a b, Lt Pos px py a b → px a ≤ px b) {r : List Nat} : ∀ (s : List Nat), Gd Pos px py r s → ∀ u v u' v', Ed s u v → Ed s u' v' → px u' < px v → px u < px v' → u = u' ∧ v = v'
  | [], _, u, v, _, _, h, _, _, _ => by cases h
  | [a], _, u, v, _, _, h, _, _, _ => by cases h
  | l :: b :: s, hg, u, v, u', v', h, h', k1, k2 => by
    have low : ∀ y ∈ b :: s, px y ≤ px b := by
      intro y hy
      rcases List.mem_cons.1 hy with rfl | hy
      · omega
      · exact hm y b (hg.2.2.below H y hy)
    rcases h with ⟨rfl, rfl⟩ | h
    · rcases h' with ⟨rfl, rfl⟩ | h'
      · exact ⟨rfl, rfl⟩
      · have := low v' (Ed.mem h').2; omega
    · rcases h' with ⟨rfl, rfl⟩ | h'
      · have := low v (Ed.mem h).2; omega
      · exact Ed_uni H hm (b :: s) hg.2.2 u v u' v' h h' k1 k2

theorem back_px {a b : Nat} (h : Lt Back px py a b) : px b ≤ px a := by
  unfold Lt Back Lex at h; omega

theorem lex_px {a b : Nat} (h : Lt Lex px py a b) : px a ≤ px b := by
  unfold Lt Lex at h; omega

/-- What two sweeps make is a mesh. -/
theorem Two.mesh (h : Two Lex Back px py n l1 r1 s1 A1 l2 r2 s2 A2) (hn : ∀ p, p ∈ l1 :: r1 ↔ p < n) : Mesh px py n (ov A2 A1) := by
  have cyc : ∀ u v w, ov A2 A1 u v = some w → ov A2 A1 v w = some u := by
    intro u v w e
    rcases ov_old e with e' | e'
    · exact ov_left (h.j.cyc _ _ _ e')
    · have := h.i.cyc _ _ _ e'
      exact ov_right (h.dis this) this
  have bd : ∀ u v w, ov A2 A1 u v = some w → ov A2 A1 v u = none → Ed (l1 :: s1) u v ∨ Ed (l2 :: s2) u v := by
    intro u v w e k
    obtain ⟨k1, k2⟩ := ov_none k
    rcases ov_old e with e' | e'
    · rcases h.symm.bd e' k1 k2 with g | g
      · exact .inr g
      · exact .inl g
    · exact h.bd e' k2 k1
  refine ⟨cyc, ?_, ?_, ?_, ?_⟩
  · intro u v w e
    rcases ov_old e with e' | e'
    · exact h.j.pos _ _ _ e'
    · exact h.i.pos _ _ _ e'
  · intro u v w e
    rcases ov_old e with e' | e'
    · exact (hn u).1 ((h.mem u).2 (h.j.mem _ _ _ e'))
    · exact (hn u).1 (h.i.mem _ _ _ e')
  · intro u v w e k p hp
    rcases bd u v w e k with g | g
    · exact (h.i.gd.side u v g).2 p ((hn p).2 hp)
    · exact (h.j.gd.side u v g).2 p ((h.mem p).1 ((hn p).2 hp))
  · intro u v w u' v' w' e k e' k' x1 x2 x3 x4
    have g1 : Ed (l1 :: s1) u v := by
      rcases bd u v w e k with g | g
      · exact g
      · have := back_px (h.j.gd.side u v g).1; omega
    have g2 : Ed (l1 :: s1) u' v' := by
      rcases bd u' v' w' e' k' with g | g
      · exact g
      · have := back_px (h.j.gd.side u' v' g).1; omega
    exact Ed_uni half_lex (fun a b => lex_px) _ h.i.gd u v u' v' g1 g2 x3 x4

/-- In which each point is a corner. -/
theorem Two.cor (h : Two Lex Back px py n l1 r1 s1 A1 l2 r2 s2 A2) (hn : ∀ p, p ∈ l1 :: r1 ↔ p < n) (h2 : 2 ≤ (l1 :: r1).length) (hw : Wide px py (l1 :: r1)) : Cor n (ov A2 A1) := by
  have M := h.mesh hn
  have key : ∀ u v, Ed (l1 :: r1) u v → (∃ w, ov A2 A1 u v = some w) ∨ (∃ w, ov A2 A1 v u = some w) := by
    intro u v e
    rcases h.i.f8 u v e with g | g
    · right
      cases hm : A1 v u with
      | none => exact absurd hm g
      | some w => exact ⟨w, ov_right (h.dis hm) hm⟩
    · rcases h.j.f8 v u ((h.ed u v).1 e) with g' | g'
      · left
        cases hm : A2 u v with
        | none => exact absurd hm g'
        | some w => exact ⟨w, ov_left hm⟩
      · exfalso
        have a1 := h.i.gd.side u v g
        have a2 := h.j.gd.side v u g'
        refine line_flat (b := u) (R := v) (Lt.ne0 half_lex a1.1) (fun p hp => ?_) hw
        have b1 := a1.2 p hp
        have b2 := a2.2 p ((h.mem p).1 hp)
        rw [T_swap] at b2
        omega
  intro p hp
  obtain ⟨v, hv⟩ := Ed_nb (l1 :: r1) p ((hn p).2 hp) h2
  rcases hv with hv | hv
  · rcases key p v hv with ⟨w, e⟩ | ⟨w, e⟩
    · exact ⟨v, w, e⟩
    · exact ⟨w, v, M.cyc _ _ _ e⟩
  · rcases key v p hv with ⟨w, e⟩ | ⟨w, e⟩
    · exact ⟨w, v, M.cyc _ _ _ e⟩
    · exact ⟨v, w, e⟩

theorem Two.sum (h : Two Lex Back px py n l1 r1 s1 A1 l2 r2 s2 A2) (hr : l1 :: r1 = (l2 :: r2).reverse) : Sd n (ov A2 A1) (fun u v _ => c2 px py u v) = shs px py (l1 :: s1) + shs px py (l2 :: s2) := by
  have e : Sd n (ov A2 A1) (fun u v _ => c2 px py u v) = Sd n A2 (fun u v _ => c2 px py u v) + Sd n A1 (fun u v _ => c2 px py u v) := by
    unfold Sd
    rw [← sm2_add]
    refine sm2_congr fun u v _ _ => ?_
    cases hm : A1 u v with
    | none =>
      unfold ov
      rw [hm]
      cases A2 u v <;> simp [el]
    | some w =>
      have := h.dis hm
      unfold ov
      rw [this, hm]
      simp [el]
  have a1 := h.i.ar
  have a2 := h.j.ar
  have a3 := shs_rev (px := px) (py := py) (l2 :: r2)
  rw [← hr] at a3
  omega

end Go.Proofs.YtdbebbbceeopaaaGreat.Geo

set_option linter.unusedSimpArgs false
namespace Go.Proofs.YtdbebbbceeopaaaGreat.Geo
variable {px py : Nat → Int} {n : Nat} {M : Nat → Nat → Option Nat} {X Y W : Int}

/-- A side with a triangle to its left and none to its right. -/
def Rim (M : Nat → Nat → Option Nat) (u v : Nat) : Prop := M u v ≠ none ∧ M v u = none

theorem rim_flip {a b c d : Nat} (q : Quad px py M a b c d) (u v : Nat) : Rim (flipM M a b c d) u v ↔ Rim M u v := by
  have ab := q.ab
  have ba := q.ba
  have bc := q.bc
  have ca := q.ca
  have ad := q.ad
  have db := q.db
  have cd := q.cd
  have dc := q.dc
  constructor
  · rintro ⟨h1, h2⟩
    cases hm : flipM M a b c d u v with
    | none => exact absurd hm h1
    | some w =>
      obtain ⟨w', k1, k2⟩ := flip_bd q u v w hm h2
      exact ⟨by rw [k1]; simp, k2⟩
  · rintro ⟨h1, h2⟩
    have n1 : ¬ ((u = a ∧ v = b) ∨ (u = b ∧ v = a)) := by
      rintro (⟨rfl, rfl⟩ | ⟨rfl, rfl⟩)
      · rw [ba] at h2; cases h2
      · rw [ab] at h2; cases h2
    have n2 : ¬ ((v = a ∧ u = b) ∨ (v = b ∧ u = a)) := by
      rintro (⟨rfl, rfl⟩ | ⟨rfl, rfl⟩)
      · rw [ab] at h2; cases h2
      · rw [ba] at h2; cases h2
    constructor
    · unfold flipM
      rw [if_neg n1]
      (repeat' split) <;> first | exact h1 | simp
    · unfold flipM
      rw [if_neg n2]
      (repeat' split) <;> first | exact h2 | skip
      · rename_i h; obtain ⟨rfl, rfl⟩ := h; rw [ad] at h2; cases h2
      · rename_i h; obtain ⟨rfl, rfl⟩ := h; exact absurd cd h1
      · rename_i h; obtain ⟨rfl, rfl⟩ := h; rw [ca] at h2; cases h2
      · rename_i h; obtain ⟨rfl, rfl⟩ := h; rw [db] at h2; cases h2
      · rename_i h; obtain ⟨rfl, rfl⟩ := h; rw [bc] at h2; cases h2
      · rename_i h; obtain ⟨rfl, rfl⟩ := h; exact absurd dc h1

/-- What comes of a mesh by sides that are turned over. -/
def Reach (px py : Nat → Int) (n : Nat) (M0 M : Nat → Nat → Option Nat) : Prop :=
  ∀ P : (Nat → Nat → Option Nat) → Prop, P M0 → (∀ (M : Nat → Nat → Option Nat) (a b c d : Nat), P M → Mesh px py n M → Quad px py M a b c d → P (flipM M a b c d)) → P M

theorem Reach.refl {M0 : Nat → Nat → Option Nat} : Reach px py n M0 M0 := fun _ h _ => h

theorem Reach.flip {M0 M : Nat → Nat → Option Nat} {a b c d : Nat} (h : Reach px py n M0 M) (hm : Mesh px py n M) (q : Quad px py M a b c d) : Reach px py n M0 (flipM M a b c d) := fun P h0 hs => hs M a b c d (h P h0 hs) hm q

theorem Reach.rim {M0 : Nat → Nat → Option Nat} (h : Reach px py n M0 M) (u v : Nat) : Rim M u v ↔ Rim M0 u v := by
  exact h (fun M => Rim M u v ↔ Rim M0 u v) Iff.rfl fun M a b c d ih _ q => (rim_flip q u v).trans ih

theorem nn_of_mul {p t : Int} (hp : 0 < p) (h : 0 ≤ p * t) : 0 ≤ t := by
  rcases Int.lt_or_le t 0 with k | k
  · have := Int.mul_neg_of_pos_of_neg hp k; omega
  · exact k

/-- If a triangle that turns left is passed below once more to the right than to the left, the place lies in it or on its border. -/
theorem tri_in {a b c : Nat} (ga : W * px a ≠ X) (gb : W * px b ≠ X) (gc : W * px c ≠ X)
    (h1 : 1 ≤ crs px py X Y W a b + crs px py X Y W b c + crs px py X Y W c a) : 0 ≤ TQ px py X Y W a b ∧ 0 ≤ TQ px py X Y W b c ∧ 0 ≤ TQ px py X Y W c a := by
  have hb := TQ_bary (px := px) (py := py) (X := X) (Y := Y) (W := W) a b c
  have R : ∀ u v : Nat, W * px u < X → X < W * px v → crs px py X Y W u v = if 0 < TQ px py X Y W u v then 1 else 0 := fun u v h1 h2 => by
    unfold crs
    split
    · rename_i h; rw [if_pos h.2.2]
    · rename_i h; rw [if_neg (by omega), if_neg (fun k => h ⟨h1, h2, k⟩)]
  have L : ∀ u v : Nat, W * px v < X → X < W * px u → crs px py X Y W u v = if TQ px py X Y W u v < 0 then -1 else 0 := fun u v h1 h2 => by
    unfold crs
    rw [if_neg (by omega)]
    split
    · rename_i h; rw [if_pos h.2.2]
    · rename_i h; rw [if_neg (fun k => h ⟨h1, h2, k⟩)]
  have Z : ∀ u v : Nat, (W * px v < X ∧ W * px u < X) ∨ (X < W * px v ∧ X < W * px u) → crs px py X Y W u v = 0 := fun u v h => by
    unfold crs
    rw [if_neg (by omega), if_neg (by omega)]
  have key : ∀ {p q r x y z : Int}, x * p + y * q + z * r = 0 → ((p < 0 ∧ 0 < q ∧ 0 < r) ∨ (0 < p ∧ q < 0 ∧ r < 0)) → 0 ≤ y → 0 ≤ z → 0 ≤ x := by
    intro p q r x y z e hs hy hz
    rcases hs with ⟨k1, k2, k3⟩ | ⟨k1, k2, k3⟩
    · have m1 := Int.mul_nonneg hy (Int.le_of_lt k2)
      have m2 := Int.mul_nonneg hz (Int.le_of_lt k3)
      refine nn_of_mul (p := -p) (by omega) ?_
      have : -p * x = - (x * p) := by rw [Int.neg_mul, Int.mul_comm]
      omega
    · have m1 := Int.mul_nonneg hy (show 0 ≤ -q by omega)
      have m2 := Int.mul_nonneg hz (show 0 ≤ -r by omega)
      rw [Int.mul_neg] at m1 m2
      refine nn_of_mul k1 ?_
      rw [Int.mul_comm]
      omega
  have e2 : TQ px py X Y W c a * (W * px b - X) + TQ px py X Y W a b * (W * px c - X) + TQ px py X Y W b c * (W * px a - X) = 0 := by omega
  have e3 : TQ px py X Y W a b * (W * px c - X) + TQ px py X Y W b c * (W * px a - X) + TQ px py X Y W c a * (W * px b - X) = 0 := by omega
  rcases Int.lt_or_gt_of_ne ga with ha | ha <;> rcases Int.lt_or_gt_of_ne gb with hb' | hb' <;> rcases Int.lt_or_gt_of_ne gc with hc | hc
  · rw [Z a b (.inl ⟨hb', ha⟩), Z b c (.inl ⟨hc, hb'⟩), Z c a (.inl ⟨ha, hc⟩)] at h1; omega
  · rw [Z a b (.inl ⟨hb', ha⟩), R b c hb' hc, L c a ha hc] at h1
    have q : 0 ≤ TQ px py X Y W b c ∧ 0 ≤ TQ px py X Y W c a := by revert h1; split <;> split <;> omega
    exact ⟨key e3 (.inr ⟨by omega, by omega, by omega⟩) q.1 q.2, q.1, q.2⟩
  · rw [R a b ha hb', L b c hc hb', Z c a (.inl ⟨ha, hc⟩)] at h1
    have q : 0 ≤ TQ px py X Y W a b ∧ 0 ≤ TQ px py X Y W b c := by revert h1; split <;> split <;> omega
    exact ⟨q.1, q.2, key e2 (.inr ⟨by omega, by omega, by omega⟩) q.1 q.2⟩
  · rw [R a b ha hb', Z b c (.inr ⟨hc, hb'⟩), L c a ha hc] at h1
    have q : 0 ≤ TQ px py X Y W a b ∧ 0 ≤ TQ px py X Y W c a := by revert h1; split <;> split <;> omega
    exact ⟨q.1, key hb (.inl ⟨by omega, by omega, by omega⟩) q.2 q.1, q.2⟩
  · rw [L a b hb' ha, Z b c (.inl ⟨hc, hb'⟩), R c a hc ha] at h1
    have q : 0 ≤ TQ px py X Y W a b ∧ 0 ≤ TQ px py X Y W c a := by revert h1; split <;> split <;> omega
    exact ⟨q.1, key hb (.inr ⟨by omega, by omega, by omega⟩) q.2 q.1, q.2⟩
  · rw [L a b hb' ha, R b c hb' hc, Z c a (.inr ⟨ha, hc⟩)] at h1
    have q : 0 ≤ TQ px py X Y W a b ∧ 0 ≤ TQ px py X Y W b c := by revert h1; split <;> split <;> omega
    exact ⟨q.1, q.2, key e2 (.inl ⟨by omega, by omega, by omega⟩) q.1 q.2⟩
  · rw [Z a b (.inr ⟨hb', ha⟩), L b c hc hb', R c a hc ha] at h1
    have q : 0 ≤ TQ px py X Y W b c ∧ 0 ≤ TQ px py X Y W c a := by revert h1; split <;> split <;> omega
    exact ⟨key e3 (.inl ⟨by omega, by omega, by omega⟩) q.1 q.2, q.1, q.2⟩
  · rw [Z a b (.inr ⟨hb', ha⟩), Z b c (.inr ⟨hc, hb'⟩), Z c a (.inr ⟨ha, hc⟩)] at h1; omega

/-- A place with all of the border to its right and some of it below lies in a triangle. -/
theorem Mesh.cover (h : Mesh px py n M) (hg : ∀ v, v < n → W * px v ≠ X) (hB : ∀ u v, Rim M u v → 0 < TQ px py X Y W u v) (hS : ∃ u v, Rim M u v ∧ W * px u < X ∧ X < W * px v) :
    ∃ a b c, M a b = some c ∧ 0 ≤ TQ px py X Y W a b ∧ 0 ≤ TQ px py X Y W b c ∧ 0 ≤ TQ px py X Y W c a := by
  rcases Classical.em (∃ a b c, M a b = some c ∧ 0 ≤ TQ px py X Y W a b ∧ 0 ≤ TQ px py X Y W b c ∧ 0 ≤ TQ px py X Y W c a) with hh | hh
  · exact hh
  · exfalso
    let F : Nat → Nat → Int := fun u v => el (M u v) (fun w => crs px py X Y W u v + crs px py X Y W v w + crs px py X Y W w u)
    have hF0 : ∀ u v, u < n → v < n → F u v ≤ 0 := by
      intro u v hu hv
      show el (M u v) _ ≤ 0
      cases hm : M u v with
      | none => exact Int.le_refl _
      | some w =>
        show crs px py X Y W u v + crs px py X Y W v w + crs px py X Y W w u ≤ 0
        rcases Int.lt_or_le 0 (crs px py X Y W u v + crs px py X Y W v w + crs px py X Y W w u) with k | k
        · exact absurd ⟨u, v, w, hm, tri_in (hg u hu) (hg v hv) (hg w (h.lts hm).2.2) (by omega)⟩ hh
        · exact k
    have s0 : sm2 n F ≤ 0 := by
      have := sm2_le hF0
      have e : sm2 n (fun _ _ => (0 : Int)) = 0 := by
        have : sm2 n (fun _ _ => (0 : Int)) = sm n (fun _ => 0) := sm_congr fun _ _ => sm_zero n
        rw [this, sm_zero]
      omega
    have s1 : sm2 n F = sm2 n (fun u v => el (M u v) (fun _ => crs px py X Y W u v)) + sm2 n (fun u v => el (M u v) (fun w => crs px py X Y W v w)) + sm2 n (fun u v => el (M u v) (fun w => crs px py X Y W w u)) := by
      rw [← sm2_add, ← sm2_add]
      refine sm2_congr fun u v _ _ => ?_
      show el (M u v) _ = _
      cases M u v <;> simp [el]
    have r1 := h.rot (fun u v _ => crs px py X Y W u v)
    have r2 := h.rot (fun _ v w => crs px py X Y W v w)
    have s2 := Mesh.cancel (n := n) (M := M) (fun u v => crs px py X Y W u v) (fun u v => crs_anti u v)
    obtain ⟨u0, v0, hr, k1, k2⟩ := hS
    have hu : u0 < n ∧ v0 < n := by
      cases hm : M u0 v0 with
      | none => exact absurd hm hr.1
      | some w => exact ⟨(h.lts hm).1, (h.lts hm).2.1⟩
    have big := sm2_ge_list [(u0, v0)] (fun u v => if M u v ≠ none ∧ M v u = none then crs px py X Y W u v else 0) (fun u v _ _ => by
        show 0 ≤ if M u v ≠ none ∧ M v u = none then crs px py X Y W u v else 0
        by_cases k : M u v ≠ none ∧ M v u = none
        · rw [if_pos k]
          have := hB u v k
          unfold crs
          split
          · decide
          · rw [if_neg (by omega)]; decide
        · rw [if_neg k]; decide) (by simp) (by
        intro k hk
        simp only [List.mem_cons, List.not_mem_nil, or_false] at hk
        subst hk
        refine ⟨hu.1, hu.2, ?_⟩
        show 1 ≤ if M u0 v0 ≠ none ∧ M v0 u0 = none then crs px py X Y W u0 v0 else 0
        rw [if_pos (show M u0 v0 ≠ none ∧ M v0 u0 = none from hr)]
        have := hB u0 v0 hr
        unfold crs
        rw [if_pos ⟨k1, k2, this⟩]
        decide)
    simp only [List.length_cons, List.length_nil] at big
    omega

/-- The turn of a side and a place. -/
def tp (px py : Nat → Int) (x y : Int) (a b : Nat) : Int := (px b - px a) * (y - py a) - (py b - py a) * (x - px a)

/-- A place of the hull lies in a triangle: g is a place within the hull beside it, L and R are as far to the left and right as any. -/
theorem Mesh.found (h : Mesh px py n M) {x y gx gy : Int} {L R : Nat} (hne : gx ≠ x) (hB : ∀ u v, Rim M u v → 0 ≤ tp px py x y u v) (hG : ∀ u v, Rim M u v → 0 < tp px py gx gy u v)
    (l1 : px L ≤ x) (l2 : px L < gx) (r1 : x ≤ px R) (r2 : gx < px R)
    (hS : ∀ W X : Int, 0 < W → (∀ v, v < n → W * px v ≠ X) → W * px L < X → X < W * px R → ∃ u v, Rim M u v ∧ W * px u < X ∧ X < W * px v) :
    ∃ a b c, M a b = some c ∧ 0 ≤ tp px py x y a b ∧ 0 ≤ tp px py x y b c ∧ 0 ≤ tp px py x y c a := by
  obtain ⟨K, hK⟩ : ∃ K, K = sm2 n (fun a b => ((tp px py gx gy a b).natAbs : Int)) := ⟨_, rfl⟩
  have hK1 : ∀ a b, a < n → b < n → ((tp px py gx gy a b).natAbs : Int) ≤ K := by
    intro a b ha hb
    rw [hK]
    have e1 := sm_ge_one (n := n) (k := b) (f := fun b => ((tp px py gx gy a b).natAbs : Int)) hb (fun i _ => by omega)
    have e2 := sm_ge_one (n := n) (k := a) (f := fun a => sm n (fun b => ((tp px py gx gy a b).natAbs : Int))) ha (fun i _ => sm_nonneg fun j _ => by omega)
    exact Int.le_trans e1 e2
  have hK0 : 0 ≤ K := by rw [hK]; exact sm2_nonneg fun a b _ _ => by omega
  obtain ⟨V, hV⟩ : ∃ V : Int, V = K + 1 + ((gx - x).natAbs : Int) := ⟨_, rfl⟩
  have eT : ∀ a b, TQ px py ((V + 1) * x + (gx - x)) ((V + 1) * y + (gy - y)) (V + 1) a b = V * tp px py x y a b + tp px py gx gy a b := by
    intro a b; unfold TQ tp; grind
  have gen : ∀ v, v < n → (V + 1) * px v ≠ (V + 1) * x + (gx - x) := by
    intro v _ e
    have e' : (V + 1) * (px v - x) = gx - x := by rw [Int.mul_sub]; omega
    rcases Int.lt_trichotomy (px v - x) 0 with g | g | g
    · have : (V + 1) * (px v - x) ≤ (V + 1) * (-1) := Int.mul_le_mul_of_nonneg_left (by omega) (by omega)
      omega
    · rw [g] at e'; omega
    · have : (V + 1) * 1 ≤ (V + 1) * (px v - x) := Int.mul_le_mul_of_nonneg_left (by omega) (by omega)
      omega
  have pL : (V + 1) * px L < (V + 1) * x + (gx - x) := by
    have e : (V + 1) * x + (gx - x) - (V + 1) * px L = V * (x - px L) + (gx - px L) := by grind
    have := Int.mul_nonneg (show 0 ≤ V by omega) (show 0 ≤ x - px L by omega)
    omega
  have pR : (V + 1) * x + (gx - x) < (V + 1) * px R := by
    have e : (V + 1) * px R - ((V + 1) * x + (gx - x)) = V * (px R - x) + (px R - gx) := by grind
    have := Int.mul_nonneg (show 0 ≤ V by omega) (show 0 ≤ px R - x by omega)
    omega
  obtain ⟨a, b, c, e, k1, k2, k3⟩ := h.cover gen (fun u v hr => by
    rw [eT]
    have := Int.mul_nonneg (show 0 ≤ V by omega) (hB u v hr)
    have := hG u v hr
    omega) (hS _ _ (by omega) gen pL pR)
  have l := h.lts e
  have q : ∀ u v, u < n → v < n → 0 ≤ TQ px py ((V + 1) * x + (gx - x)) ((V + 1) * y + (gy - y)) (V + 1) u v → 0 ≤ tp px py x y u v := by
    intro u v hu hv k
    rw [eT] at k
    have := hK1 u v hu hv
    rcases Int.lt_or_le (tp px py x y u v) 0 with g | g
    · have : V * tp px py x y u v ≤ V * (-1) := Int.mul_le_mul_of_nonneg_left (by omega) (by omega)
      omega
    · exact g
  exact ⟨a, b, c, e, q a b l.1 l.2.1 k1, q b c l.2.1 l.2.2 k2, q c a l.2.2 l.1 k3⟩

/-- Beside the hull there is no triangle. -/
theorem Mesh.beside (h : Mesh px py n M) {x y : Int} {u v : Nat} (hs : ∀ p, p < n → 0 ≤ T px py u v p) (hx : tp px py x y u v < 0) {a b c : Nat} (e : M a b = some c) : ¬ (0 ≤ tp px py x y a b ∧ 0 ≤ tp px py x y b c ∧ 0 ≤ tp px py x y c a) := by
  rintro ⟨k1, k2, k3⟩
  have l := h.lts e
  have p := h.pos _ _ _ e
  have id : T px py a b c * tp px py x y u v = tp px py x y b c * T px py u v a + tp px py x y c a * T px py u v b + tp px py x y a b * T px py u v c := by unfold tp T tw; grind
  have m1 := Int.mul_nonneg k2 (hs a l.1)
  have m2 := Int.mul_nonneg k3 (hs b l.2.1)
  have m3 := Int.mul_nonneg k1 (hs c l.2.2)
  have m4 := Int.mul_neg_of_pos_of_neg p hx
  omega

end Go.Proofs.YtdbebbbceeopaaaGreat.Geo

set_option linter.unusedSimpArgs false
namespace Go.Proofs.YtdbebbbceeopaaaGreat.Geo
variable {px py : Nat → Int} {n : Nat} {M : Nat → Nat → Option Nat}

theorem T_aff (a b i j x y : Nat) : T px py i j b * T px py a x y - T px py i j a * T px py b x y = T px py a b i * T px py j x y - T px py a b j * T px py i x y := by unfold T tw; grind

theorem Wn_form (a b c d : Nat) : Wn px py a b c d = lift px py a * T px py d b c + lift px py b * T px py d c a + lift px py c * T px py d a b - lift px py d * T px py a b c := by
  unfold Wn lift T tw sq; grind

theorem alg1 (p q r s l1 l2 l3 A1 A2 A3 B1 B2 B3 I1 I2 I3 J1 J2 J3 : Int) (e1 : p * A1 - q * B1 = r * J1 - s * I1) (e2 : p * A2 - q * B2 = r * J2 - s * I2) (e3 : p * A3 - q * B3 = r * J3 - s * I3) :
    p * (l1 * A1 + l2 * A2 + l3 * A3) - q * (l1 * B1 + l2 * B2 + l3 * B3) = r * (l1 * J1 + l2 * J2 + l3 * J3) - s * (l1 * I1 + l2 * I2 + l3 * I3) := by
  have h : p * (l1 * A1 + l2 * A2 + l3 * A3) - q * (l1 * B1 + l2 * B2 + l3 * B3) = l1 * (p * A1 - q * B1) + l2 * (p * A2 - q * B2) + l3 * (p * A3 - q * B3) := by grind
  rw [h, e1, e2, e3]
  grind

theorem alg2 (p q r s la lb li lj D1 D2 Fa Fb Gi Gj : Int) (hF : p * Fa - q * Fb = r * (lj * D1) - s * (li * D1)) (hG : p * (la * D2) - q * (lb * D2) = r * Gj - s * Gi) :
    p * (D2 * (Fa - la * D1)) - q * (D2 * (Fb - lb * D1)) = s * (D1 * (Gi - li * D2)) - r * (D1 * (Gj - lj * D2)) := by
  have h : p * (D2 * (Fa - la * D1)) - q * (D2 * (Fb - lb * D1)) = D2 * (p * Fa - q * Fb) - D1 * (p * (la * D2) - q * (lb * D2)) := by grind
  rw [h, hF, hG]
  grind

/-- Two circles, through i, j, k and a, b, c. -/
theorem radical (a b c i j k : Nat) :
    T px py i j b * (T px py a b c * Wn px py i j k a) - T px py i j a * (T px py a b c * Wn px py i j k b) = T px py a b j * (T px py i j k * Wn px py a b c i) - T px py a b i * (T px py i j k * Wn px py a b c j) := by
  have z1 := Wn_form (px := px) (py := py) i j k i
  have z2 := Wn_form (px := px) (py := py) i j k j
  have z3 := Wn_form (px := px) (py := py) a b c a
  have z4 := Wn_form (px := px) (py := py) a b c b
  rw [Wn_corner1] at z1 z3
  rw [Wn_corner2] at z2 z4
  have hF := alg1 _ _ _ _ (lift px py i) (lift px py j) (lift px py k) _ _ _ _ _ _ _ _ _ _ _ _ (T_aff (px := px) (py := py) a b i j j k) (T_aff (px := px) (py := py) a b i j k i) (T_aff (px := px) (py := py) a b i j i j)
  have hG := alg1 _ _ _ _ (lift px py a) (lift px py b) (lift px py c) _ _ _ _ _ _ _ _ _ _ _ _ (T_aff (px := px) (py := py) a b i j b c) (T_aff (px := px) (py := py) a b i j c a) (T_aff (px := px) (py := py) a b i j a b)
  rw [show lift px py i * T px py i j k + lift px py j * T px py i k i + lift px py k * T px py i i j = lift px py i * T px py i j k by omega,
    show lift px py i * T px py j j k + lift px py j * T px py j k i + lift px py k * T px py j i j = lift px py j * T px py i j k by omega] at hF
  rw [show lift px py a * T px py a b c + lift px py b * T px py a c a + lift px py c * T px py a a b = lift px py a * T px py a b c by omega,
    show lift px py a * T px py b b c + lift px py b * T px py b c a + lift px py c * T px py b a b = lift px py b * T px py a b c by omega] at hG
  rw [Wn_form i j k a, Wn_form i j k b, Wn_form a b c i, Wn_form a b c j]
  exact alg2 _ _ _ _ _ _ _ _ _ _ _ _ _ _ hF hG

theorem chord (i j k d : Nat) (h : T px py i j d = 0) : Wn px py i j k d = - (T px py i j k * dt px py d i j) := by
  unfold Wn dt sq T tw at *; grind

/-- Two points on a circle with nobody else in it or on it, but for one, are joined in any mesh that is round. -/
theorem Mesh.joins (h : Mesh px py n M) (hi : Inj px py n) (hc : Cor n M) (hl : Loc px py M) {i j k : Nat} (h1 : i < n) (h2 : j < n) (hT : 0 < T px py i j k)
    (hE : ∀ p, p < n → p ≠ i → p ≠ j → p ≠ k → Wn px py i j k p < 0) : (∃ c, M i j = some c) ∨ ∃ c, M j i = some c := by
  have hne : i ≠ j := T_ne12 hT
  refine h.line hi hc h1 h2 hne ?_ ?_
  · intro d hd h0 hlt
    have e := chord i j k d h0
    have := Int.mul_neg_of_pos_of_neg hT hlt
    have ni : d ≠ i := by rintro rfl; unfold dt at hlt; simp at hlt
    have nj : d ≠ j := by rintro rfl; unfold dt at hlt; simp at hlt
    have nk : d ≠ k := by rintro rfl; omega
    have := hE d hd ni nj nk
    omega
  · intro a b c d e1 e2 t1 t2 t3 t4
    exfalso
    have lt := h.lts e1
    have D := h.pos _ _ _ e1
    have w1 := h.delaunay hi hc hl e1 h1
    have w2 := h.delaunay hi hc hl e1 h2
    have z1 : T px py a b a = 0 := T_111 _ _
    have z2 : T px py a b b = 0 := T_122 _ _
    have ai : a ≠ i := by rintro rfl; omega
    have bi : b ≠ i := by rintro rfl; omega
    have aj : a ≠ j := by rintro rfl; omega
    have bj : b ≠ j := by rintro rfl; omega
    have fa : Wn px py i j k a ≤ 0 := by
      by_cases q : a = k
      · subst q; rw [Wn_corner3]; exact Int.le_refl _
      · exact Int.le_of_lt (hE a lt.1 ai aj q)
    have fb : Wn px py i j k b ≤ 0 := by
      by_cases q : b = k
      · subst q; rw [Wn_corner3]; exact Int.le_refl _
      · exact Int.le_of_lt (hE b lt.2.1 bi bj q)
    have e := radical (px := px) (py := py) a b c i j k
    have p1 := Int.mul_nonneg (Int.le_of_lt t2) (Int.mul_nonneg (Int.le_of_lt D) (show 0 ≤ - Wn px py i j k a by omega))
    have p2 := Int.mul_nonneg (show 0 ≤ - T px py i j a by omega) (Int.mul_nonneg (Int.le_of_lt D) (show 0 ≤ - Wn px py i j k b by omega))
    have p3 := Int.mul_nonneg (Int.le_of_lt t3) (Int.mul_nonneg (Int.le_of_lt hT) (show 0 ≤ - Wn px py a b c j by omega))
    have p4 := Int.mul_nonneg (show 0 ≤ - T px py a b j by omega) (Int.mul_nonneg (Int.le_of_lt hT) (show 0 ≤ - Wn px py a b c i by omega))
    have nab : a ≠ b := T_ne12 D
    by_cases q : a = k
    · have qb : b ≠ k := fun g => nab (q.trans g.symm)
      have := Int.mul_pos (show 0 < - T px py i j a by omega) (Int.mul_pos D (show 0 < - Wn px py i j k b by have := hE b lt.2.1 bi bj qb; omega))
      simp only [Int.neg_mul, Int.mul_neg] at p1 p2 p3 p4 this
      omega
    · have := Int.mul_pos t2 (Int.mul_pos D (show 0 < - Wn px py i j k a by have := hE a lt.1 ai aj q; omega))
      simp only [Int.neg_mul, Int.mul_neg] at p1 p2 p3 p4 this
      omega

/-- No four on one circle, or line. -/
def Free (px py : Nat → Int) (n : Nat) : Prop := ∀ a b c d, a < n → b < n → c < n → d < n → a ≠ b → a ≠ c → a ≠ d → b ≠ c → b ≠ d → c ≠ d → Wn px py a b c d ≠ 0

/-- Two round meshes of the same points have the same sides, if no four lie on one circle. -/
theorem same_sides {M' : Nat → Nat → Option Nat} (h : Mesh px py n M) (hi : Inj px py n) (hc : Cor n M) (hl : Loc px py M) (h' : Mesh px py n M') (hc' : Cor n M') (hl' : Loc px py M') (hf : Free px py n) {i j k : Nat} (e : M i j = some k) :
    (∃ c, M' i j = some c) ∨ ∃ c, M' j i = some c := by
  have l := h.lts e
  have t := h.pos _ _ _ e
  refine h'.joins hi hc' hl' l.1 l.2.1 t fun p hp k1 k2 k3 => ?_
  have w := h.delaunay hi hc hl e hp
  have := hf i j k p l.1 l.2.1 l.2.2 hp (T_ne12 t) (T_ne13 t) (Ne.symm k1) (T_ne23 t) (Ne.symm k2) (Ne.symm k3)
  omega

end Go.Proofs.YtdbebbbceeopaaaGreat.Geo
