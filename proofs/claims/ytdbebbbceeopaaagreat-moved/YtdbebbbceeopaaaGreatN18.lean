import Derived.Test.YtdbebbbceeopaaaGreatN11
import Derived.Laws.CopyOwn
import Derived.Deep.RegionHeld3
import Derived.Deep.DeepCutAuto
import Derived.Laws.StructEq
import Derived.Deep.QuietTactic
import Derived.Test.YtdbebbbceeopaaaGreatN14
set_option linter.unusedSimpArgs false
namespace Go.Proofs.YtdbebbbceeopaaaGreat
open Go.RowKit

theorem Tryz.info46 : (Tryz.prog.info? 46).map (fun i => (i.zero, i.size, i.bytes)) = some (some (.agg #[.int .i64 0, .int .i64 0, .int .i64 0]), 3, 24) := by kernel_rfl

theorem heap_lt {w : World} {g : Nat} {o : Obj} (h : w.heap[g]? = some o) : g < w.heap.size := (Array.getElem?_eq_some_iff.1 h).1

theorem heap_new (w : World) (o : Obj) : (w.alloc o).heap[w.heap.size]? = some o := by
  show (w.heap.push o)[_]? = _
  simp

theorem size_new (w : World) (o : Obj) : (w.alloc o).heap.size = w.heap.size + 1 := by
  show (w.heap.push o).size = _
  simp

theorem heap_cell {w : World} {g : Nat} {cs : Array Value} {t : TypeId} (h : w.heap[g]? = some (.cells cs t (0, 0))) (j : Nat) : w.cell? ⟨g, j, none⟩ = cs[j]? := by
  simp [World.cell?, h]
theorem heap_free {w : World} {g : Nat} {cs : Array Value} {t : TypeId} (h : w.heap[g]? = some (.cells cs t (0, 0))) (j : Nat) : w.frozen? ⟨g, j, none⟩ = false := by
  simp [World.frozen?, h]

end Go.Proofs.YtdbebbbceeopaaaGreat

set_option linter.unusedSimpArgs false
namespace Go.Proofs.YtdbebbbceeopaaaGreat
open Go.RowKit

/-- A list that is written over from its head on, k elements of it so far. -/
def over (l c : List Value) (k : Nat) : List Value := (List.replicate k c).flatten ++ l.drop (k * c.length)

theorem new_cell {w : World} {b o : Nat} {v : Value} (h : w.cell? ⟨b, o, none⟩ = some v) : ∀ x, (w.alloc x).cell? ⟨b, o, none⟩ = some v := fun _ => (World.cell?_alloc_lt _ _ _ (World.block_lt_of_cell? w _ h)).trans h

end Go.Proofs.YtdbebbbceeopaaaGreat

set_option linter.unusedSimpArgs false
namespace Go.Proofs.YtdbebbbceeopaaaGreat
open Go.RowKit

def sqI (ax ay bx bya : Int) : Int := (ax - bx) * (ax - bx) + (ay - bya) * (ay - bya)

set_option maxHeartbeats 400000 in
theorem ksquare_any (ax ay bx bya : Int) (A : -1000 ≤ ax ∧ ax ≤ 1000) (A' : -1000 ≤ ay ∧ ay ≤ 1000) (B : -1000 ≤ bx ∧ bx ≤ 1000) (B' : -1000 ≤ bya ∧ bya ≤ 1000) (w : World) :
    Calls Tryz.prog 17 #[.agg #[.int .i64 ax, .int .i64 ay], .agg #[.int .i64 bx, .int .i64 bya]] w fun e w' => e = .returned (.int .i64 (sqI ax ay bx bya)) ∧ Below w.heap.size w w' := by
  have h1 := sqr_bd (u := ax - bx) (v := ax - bx) (by omega) (by omega)
  have h2 := sqr_bd (u := ay - bya) (v := ay - bya) (by omega) (by omega)
  unfold sqI
  generalize hd1 : ax - bx = d1 at *
  generalize hd2 : ay - bya = d2 at *
  go_enter Tryz.func17, Tryz.ntmps17
  go_wp2
  go_ret
  refine ⟨?_, ?_⟩
  · first | rfl | simp [hd1, hd2]
  · exact ((Below.refl _ _).alloc (Nat.le_refl _) _).alloc (by simp) _

/-- Has a triangle both? -/
def hasB (A B C : Nat → Nat) (i a b : Nat) : Bool := (A i == a || B i == a || C i == a) && (A i == b || B i == b || C i == b)

def sideB (A B C : Nat → Nat) (a b : Nat) : Nat → Bool
  | 0 => false
  | m + 1 => sideB A B C a b m || hasB A B C m a b

theorem sideB_of {A B C : Nat → Nat} {a b : Nat} : ∀ {m i : Nat}, i < m → hasB A B C i a b = true → sideB A B C a b m = true
  | 0, i, h, _ => by omega
  | m + 1, i, h, k => by
    unfold sideB
    by_cases e : i = m
    · subst e; rw [k]; simp
    · rw [sideB_of (show i < m by omega) k]; simp

theorem beq_nat (x a : Nat) : (((x : Nat) : Int) == ((a : Nat) : Int)) = (x == a) := by
  rw [Bool.eq_iff_iff, beq_iff_eq, beq_iff_eq]
  omega

set_option maxRecDepth 100000 in
set_option maxHeartbeats 2000000 in
theorem side_any (n g o m mcap : Nat) (z : List Int) (A B C : Nat → Nat) (a b : Nat) (w : World) (ht : Trs w g o m z) (hm : m ≤ 2000) (hr : Row3 n m z A B C) :
    Calls Tryz.prog 18 #[.slice (some ⟨g, o, none⟩) m mcap, .int .i64 a, .int .i64 b] w fun e w' => e = .returned (.bool (sideB A B C a b m)) ∧ Below w.heap.size w w' := by
  have HT := hid ht
  have HR := hid hr
  clear ht hr
  go_enter Tryz.func18, Tryz.ntmps18
  go_wp2
  go_loopw [7] (fun i wr => ∃ k : Nat, k ≤ m ∧ i = .int .i64 k ∧ sideB A B C a b k = false ∧ Hid (Below w.heap.size w wr)) (fun i _ => m - (intOf i).toNat)
  case atStart => exact ⟨0, Nat.zero_le _, rfl, rfl, hid (Below.refl _ _)⟩
  case round =>
    obtain ⟨i, hi, rfl, hs, HB⟩ := hrel
    by_cases hlt : i < m
    · have hlt' : (i : Int) < m := by omega
      obtain ⟨z0, z1, z2⟩ := HR.out.z i hlt
      obtain ⟨t0, t1, t2⟩ := (HT.out.below HB.out).2 i hlt
      rw [z0] at t0
      rw [z1] at t1
      rw [z2] at t2
      have hsu : Hid (sideB A B C a b (i + 1) = hasB A B C i a b) := hid (by unfold sideB; rw [hs]; simp)
      have hh : Hid (hasB A B C i a b = ((A i == a || B i == a || C i == a) && (A i == b || B i == b || C i == b))) := hid rfl
      have e1 := beq_nat (A i) a
      have e2 := beq_nat (B i) a
      have e3 := beq_nat (C i) a
      have f1 := beq_nat (A i) b
      have f2 := beq_nat (B i) b
      have f3 := beq_nat (C i) b
      have HBA := hid (HB.out.alloc HB.out.size (.cells #[.int .i64 (A i), .int .i64 (B i), .int .i64 (C i)] 46))
      clear z0 z1 z2 hs
      generalize (A i == a) = p1 at *
      generalize (B i == a) = p2 at *
      generalize (C i == a) = p3 at *
      generalize (A i == b) = r1 at *
      generalize (B i == b) = r2 at *
      generalize (C i == b) = r3 at *
      generalize ((A i : Nat) : Int) = xa at *
      generalize ((B i : Nat) : Int) = xb at *
      generalize ((C i : Nat) : Int) = xc at *
      go_wp2
      all_goals first
        | exact ⟨⟨i + 1, by omega, by go_num, by rw [hsu.out, hh.out]; grind, HBA⟩, by simp [intOf]; omega⟩
        | (go_ret; exact ⟨by rw [sideB_of hlt (by rw [hh.out]; grind)]; rfl, HBA.out⟩)
    · have hkm : i = m := by omega
      subst hkm
      go_wp2
      go_ret
      exact ⟨by rw [hs]; rfl, HB.out⟩

set_option maxRecDepth 100000 in
set_option maxHeartbeats 2000000 in
theorem sane_any (px py : Nat → Int) (n qb qo cap m mcap : Nat) (pt : Option Addr) (z : List Int) (A B C : Nat → Nat) (w : World) (hp : Pts w qb qo n px py) (ht : 0 < m → ∃ g o, pt = some ⟨g, o, none⟩ ∧ Trs w g o m z) (hm : m ≤ 2000) (hbd : Bds n px py) (hr : Row3 n m z A B C)
    (hord : ∀ i, i < m → A i < B i ∧ A i < C i) (hpos : ∀ i, i < m → 0 < T px py (A i) (B i) (C i)) :
    Calls Tryz.prog 16 #[.slice (some ⟨qb, qo, none⟩) n cap, .slice pt m mcap] w fun e w' => e = .returned (.bool true) ∧ Below w.heap.size w w' := by
  have HP := hid hp
  have HT := hid ht
  have HBD := hid hbd
  have HR := hid hr
  have HO := hid hord
  have HS := hid hpos
  clear hp ht hbd hr hord hpos
  go_enter Tryz.func16, Tryz.ntmps16
  go_wp2
  go_loopw [5] (fun i wr => ∃ k : Nat, k ≤ m ∧ i = .int .i64 k ∧ Hid (Below w.heap.size w wr)) (fun i _ => m - (intOf i).toNat)
  case atStart => exact ⟨0, Nat.zero_le _, rfl, hid (Below.refl _ _)⟩
  case round =>
    obtain ⟨i, hi, rfl, HB⟩ := hrel
    by_cases hlt : i < m
    · have hlt' : (i : Int) < m := by omega
      obtain ⟨g, o, rfl, htr⟩ := HT.out (by omega)
      have hl := HR.out.a i hlt
      obtain ⟨z0, z1, z2⟩ := HR.out.z i hlt
      obtain ⟨t0, t1, t2⟩ := (htr.below HB.out).2 i hlt
      rw [z0] at t0
      rw [z1] at t1
      rw [z2] at t2
      have hpw := HP.out.below HB.out HP.out.lt
      have xa := hpw.x (A i) hl.1
      have ya := hpw.y (A i) hl.1
      have xb := hpw.x (B i) hl.2.1
      have yb := hpw.y (B i) hl.2.1
      have xc := hpw.x (C i) hl.2.2
      have yc := hpw.y (C i) hl.2.2
      have K1 := hid (kturn_any (px (A i)) (py (A i)) (px (B i)) (py (B i)) (px (C i)) (py (C i)) (HBD.out _ hl.1).1 (HBD.out _ hl.1).2 (HBD.out _ hl.2.1).1 (HBD.out _ hl.2.1).2 (HBD.out _ hl.2.2).1 (HBD.out _ hl.2.2).2)
      have hv : 0 < tw (px (A i)) (py (A i)) (px (B i)) (py (B i)) (px (C i)) (py (C i)) := HS.out i hlt
      generalize tw (px (A i)) (py (A i)) (px (B i)) (py (B i)) (px (C i)) (py (C i)) = wv at *
      have hv' : ¬ wv ≤ 0 := by omega
      have ho := HO.out i hlt
      have gl := hpw.lt
      have HBA := hid (HB.out.alloc HB.out.size (.cells #[.int .i64 (A i), .int .i64 (B i), .int .i64 (C i)] 46))
      generalize A i = a at *
      generalize B i = b at *
      generalize C i = c at *
      have a' : (a : Int) < n := by omega
      have b' : (b : Int) < n := by omega
      have c' : (c : Int) < n := by omega
      have m1 : ¬ b ≤ a := by omega
      have m2 : ¬ c ≤ a := by omega
      have m3 : ¬ n ≤ b := by omega
      have m4 : ¬ n ≤ c := by omega
      have o1 : ¬ (b : Int) ≤ a := by omega
      have o2 : ¬ (c : Int) ≤ a := by omega
      have o3 : ¬ (n : Int) ≤ b := by omega
      have o4 : ¬ (n : Int) ≤ c := by omega
      clear hpw z0 z1 z2 htr
      obtain ⟨bx, hbx⟩ : ∃ bx, bx = wr.heap.size := ⟨_, rfl⟩
      obtain ⟨W1, hW1⟩ : ∃ W1 : World, W1 = wr.alloc (.cells #[.int .i64 a, .int .i64 b, .int .i64 c] 46) := ⟨_, rfl⟩
      have x0 : W1.cell? ⟨bx, 0, none⟩ = some (.int .i64 a) := by rw [hW1, hbx]; exact World.cell?_alloc_at _ _ _ _ rfl
      have x1 : W1.cell? ⟨bx, 1, none⟩ = some (.int .i64 b) := by rw [hW1, hbx]; exact World.cell?_alloc_at _ _ _ _ rfl
      have x2 : W1.cell? ⟨bx, 2, none⟩ = some (.int .i64 c) := by rw [hW1, hbx]; exact World.cell?_alloc_at _ _ _ _ rfl
      have lx : bx < W1.heap.size := by rw [hW1, hbx]; simp
      have lq : qb < W1.heap.size := by rw [hW1]; simp; omega
      have nc : ∀ p u, wr.cell? p = some u → W1.cell? p = some u := fun p u h => by rw [hW1]; obtain ⟨b1, b2, b3⟩ := p; have hs := World.cell?_spot h; simp at hs; subst hs; exact new_cell h _
      have xa' := nc _ _ xa
      have ya' := nc _ _ ya
      have xb' := nc _ _ xb
      have yb' := nc _ _ yb
      have xc' := nc _ _ xc
      have yc' := nc _ _ yc
      go_wp2_with fail
      rw [← hW1, ← hbx]
      rw [← hW1] at HBA
      have HW1 := hid hW1
      clear nc hW1 hbx xa ya xb yb xc yc t0 t1 t2
      go_region_held3 (fun w' => w'.cell? ⟨bx, 0, none⟩ = some (.int .i64 a) ∧ w'.cell? ⟨bx, 1, none⟩ = some (.int .i64 b) ∧ w'.cell? ⟨bx, 2, none⟩ = some (.int .i64 c) ∧ w'.cell? ⟨qb, qo + a * 2, none⟩ = some (.int .i64 (px a)) ∧ w'.cell? ⟨qb, qo + a * 2 + 1, none⟩ = some (.int .i64 (py a)) ∧ w'.cell? ⟨qb, qo + b * 2, none⟩ = some (.int .i64 (px b)) ∧ w'.cell? ⟨qb, qo + b * 2 + 1, none⟩ = some (.int .i64 (py b)) ∧ w'.cell? ⟨qb, qo + c * 2, none⟩ = some (.int .i64 (px c)) ∧ w'.cell? ⟨qb, qo + c * 2 + 1, none⟩ = some (.int .i64 (py c))) (go_keep)
        ((go_at_call 23; refine (K1.out _).mono ?_; rintro e w6 ⟨rfl, hb6⟩; have u1 := (hb6.cell (p := ⟨qb, qo + a * 2, none⟩) lq).trans xa'; have u2 := (hb6.cell (p := ⟨qb, qo + a * 2 + 1, none⟩) lq).trans ya'; have u3 := (hb6.cell (p := ⟨qb, qo + b * 2, none⟩) lq).trans xb'; have u4 := (hb6.cell (p := ⟨qb, qo + b * 2 + 1, none⟩) lq).trans yb'; have u5 := (hb6.cell (p := ⟨qb, qo + c * 2, none⟩) lq).trans xc'; have u6 := (hb6.cell (p := ⟨qb, qo + c * 2 + 1, none⟩) lq).trans yc'; have v0 := (hb6.cell (p := ⟨bx, 0, none⟩) lx).trans x0; have v1 := (hb6.cell (p := ⟨bx, 1, none⟩) lx).trans x1; have v2 := (hb6.cell (p := ⟨bx, 2, none⟩) lx).trans x2; have HB6 := hid (HBA.out.drew.trans (hb6.mono HBA.out.size)); clear hb6))
      clear u1 u2 u3 u4 u5 u6 v0 v1 v2 xa' ya' xb' yb' xc' yc' x0 x1 x2
      go_wp2
      go_roundw
      case rel => exact ⟨i + 1, by omega, by go_num, HB6⟩
      case measure => simp [intOf]; omega
    · have hkm : i = m := by omega
      subst hkm
      go_wp2
      go_ret
      exact ⟨rfl, HB.out⟩
end Go.Proofs.YtdbebbbceeopaaaGreat
