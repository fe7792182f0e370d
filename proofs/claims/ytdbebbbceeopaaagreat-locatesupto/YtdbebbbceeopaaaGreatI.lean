import Derived.Test.YtdbebbbceeopaaaGreatShelf
import Derived.Test.YtdbebbbceeopaaaGreatG
import Derived.Laws.StructEq
import Derived.Deep.RegionWith
namespace Go.Proofs.YtdbebbbceeopaaaGreat
open Go.RowKit Go.Shelf Go.Lib
open Flt (Is)


def encPt (x : Int × Int) : List Value := [.int .i64 x.1, .int .i64 x.2]

theorem eqPt : EqlAt Tryz.prog 35 (fun x => .agg (encPt x).toArray) (fun x y => x.1 == y.1 && x.2 == y.2) := by
  refine ⟨fun x y w => ?_, GuardAt.agg _ (by kernel_rfl)⟩
  have u3 := Tryz.underlying3
  have a3 := Tryz.isAgg3
  have z3 := Tryz.sizeOf3
  have hS : Tryz.prog.underlying 35 = some (.struct (Tryz.prog.fieldsOf 35)) := by kernel_rfl
  have hp : Tryz.prog.stoodInHeld 35 = false := by kernel_rfl
  simp only [encPt]
  rw [run_eql_struct, show (10000 : Nat) = 9999 + 1 from rfl, run_equalIn_agg w 9999 35 _ _ hS hp]
  simp only [Program.fieldsOf, Tryz.underlying35]
  go_simp
  by_cases h1 : x.fst = y.fst <;> by_cases h2 : x.snd = y.snd <;> simp [h1, h2]

/-- Is the point numbered i one of those ahead of it? -/
def twiceAt (px py : Nat → Int) (i : Nat) : Bool := (List.range i).any fun j => px i == px j && py i == py j

/-- Is one of the first n points one of those ahead of it? -/
def twB (px py : Nat → Int) : Nat → Bool
  | 0 => false
  | k + 1 => twB px py k || twiceAt px py k

theorem twiceAt_iff (px py : Nat → Int) (i : Nat) : twiceAt px py i = true ↔ ∃ j, j < i ∧ px i = px j ∧ py i = py j := by
  simp [twiceAt]

theorem twB_iff (px py : Nat → Int) (n : Nat) : twB px py n = true ↔ ∃ i, i < n ∧ twiceAt px py i = true := by
  induction n with
  | zero => simp [twB]
  | succ n ih =>
    simp only [twB, Bool.or_eq_true, ih]
    constructor
    · rintro (⟨i, h1, h2⟩ | h)
      · exact ⟨i, by omega, h2⟩
      · exact ⟨n, by omega, h⟩
    · rintro ⟨i, h1, h2⟩
      by_cases e : i = n
      · subst e; exact Or.inr h2
      · exact Or.inl ⟨i, by omega, h2⟩

theorem contains_any (px py : Nat → Int) (n qb qo cap i : Nat) (hi : i < n) (w : World) (hp : Pts w qb qo n px py) (hn : n ≤ 40) :
    Calls Tryz.prog 91 #[.slice (some ⟨qb, qo, none⟩) i cap, .agg #[.int .i64 (px i), .int .i64 (py i)]] w fun e w' => e = .returned (.bool (twiceAt px py i)) ∧ Below w.heap.size w w' := by
  have h := AnyQ.slices_Contains Tryz.containsL 2 Tryz.isAgg35 Tryz.sizeOf35 encPt (fun _ => rfl) _ eqPt qb qo i cap ((List.range n).map fun j => (px j, py j)) (px i, py i) w (by simp; omega) (by omega) (by
    intro j hj c v hc
    have hj' : j < n := by simpa using hj
    have e : ((List.range n).map fun j => (px j, py j))[j]! = (px j, py j) := by simp [hj']
    rw [e] at hc
    match c, hc with
    | 0, hc => simp [encPt] at hc; subst hc; exact hp.x j hj'
    | 1, hc => simp [encPt] at hc; subst hc; exact hp.y j hj'
    | c + 2, hc => simp [encPt] at hc)
  change Calls Tryz.prog 91 _ _ _ at h
  refine h.mono ?_
  rintro e w' ⟨rfl, hb⟩
  refine ⟨?_, hb⟩
  congr 2
  unfold twiceAt
  rw [← List.map_take, List.take_range, List.any_map, Nat.min_eq_left (by omega)]
  rfl

set_option maxRecDepth 100000 in
set_option maxHeartbeats 1000000 in
theorem hasTwice_any (px py : Nat → Int) (n qb qo cap : Nat) (w : World) (hp : Pts w qb qo n px py) (hn : n ≤ 40) (hcap : n ≤ cap) :
    Calls Tryz.prog 59 #[.slice (some ⟨qb, qo, none⟩) n cap] w fun e w' => e = .returned (.bool (twB px py n)) ∧ Below w.heap.size w w' := by
  have HP := hid hp
  clear hp
  go_enter Tryz.func59, Tryz.ntmps59
  go_wp2
  go_loopw [7] (fun i wr => ∃ k : Nat, k ≤ n ∧ i = .int .i64 k ∧ twB px py k = false ∧ Below w.heap.size w wr) (fun i _ => n - (intOf i).toNat)
  case atStart => exact ⟨0, Nat.zero_le _, rfl, rfl, Below.refl _ _⟩
  case round =>
    obtain ⟨k, hk, rfl, ha, hb⟩ := hrel
    have HB := hid hb
    have HA := hid ha
    clear hb ha
    by_cases hlt : k < n
    · have hpw := HP.out.below HB.out HP.out.lt
      have hx := hpw.x k hlt
      have hy := hpw.y k hlt
      have hblt := hpw.lt
      have hlt' : (k : Int) < n := by omega
      have hkc : (k : Int) ≤ cap := by omega
      have hkc' : k ≤ cap := by omega
      have hc0 : ¬ cap = 0 := by omega
      have y1 : IntKind.i64.wrap (k : Int) = k := by rw [IntKind.wrap_i64]; omega
      have HC := hid (fun wq (hb : Below wr.heap.size wr wq) => contains_any px py n qb qo cap k hlt wq (hpw.below hb hpw.lt) hn)
      clear hpw
      cases hr : twiceAt px py k
      · rw [hr] at HC
        have HR := hid hr
        clear hr
        go_wp2
        go_region_with (go_at_call 91; go_must (refine (HC.out _ ?_).mono ?_; exact ((Below.refl _ _).alloc (Nat.le_refl _) _).drew; rintro e w' ⟨rfl, hb'⟩; have HB' := hid hb'; clear hb'))
        go_wp2
        go_roundw
        case rel => exact ⟨k + 1, by omega, by go_num, by rw [twB, HA.out, HR.out]; rfl, (HB.out.alloc HB.out.size _).drew.trans (HB'.out.mono (by have := HB.out.size; show _ ≤ (wr.alloc _).heap.size; simp; omega))⟩
        case measure => simp [intOf]; omega
      · rw [hr] at HC
        have HR := hid hr
        clear hr
        go_wp2
        go_region_with (go_at_call 91; go_must (refine (HC.out _ ?_).mono ?_; exact ((Below.refl _ _).alloc (Nat.le_refl _) _).drew; rintro e w' ⟨rfl, hb'⟩; have HB' := hid hb'; clear hb'))
        go_wp2
        go_ret
        exact ⟨by rw [(twB_iff px py n).2 ⟨k, hlt, HR.out⟩]; rfl, (HB.out.alloc HB.out.size _).drew.trans (HB'.out.mono (by have := HB.out.size; show _ ≤ (wr.alloc _).heap.size; simp; omega))⟩
    · have : k = n := by omega
      subst this
      go_wp2
      go_ret
      exact ⟨by rw [HA.out]; rfl, HB.out⟩
end Go.Proofs.YtdbebbbceeopaaaGreat
