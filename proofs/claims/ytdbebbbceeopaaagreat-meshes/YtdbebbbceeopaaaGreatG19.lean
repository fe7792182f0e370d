import Derived.Test.YtdbebbbceeopaaaGreatG11
import Derived.Laws.CopyOwn
import Derived.Deep.RegionHeld3
import Derived.Deep.DeepCutAuto
import Derived.Laws.StructEq
import Derived.Deep.QuietTactic
set_option linter.unusedSimpArgs false
namespace Go.Proofs.YtdbebbbceeopaaaGreat
open Go.RowKit

def ivs (zs : List Int) : List Value := zs.map fun z => .int .i64 z

/-- A list that came in: its cells, as whole numbers. -/
def Src (w : World) (v : Value) (sz n : Nat) (zs : List Int) : Prop :=
  zs.length = n * sz ∧ ∃ p c, v = .slice p n c ∧ (p = none → n = 0) ∧ ∀ a, p = some a → ∀ j z, zs[j]? = some z → w.cell? (a.add j) = some (.int .i64 z)

theorem Src.below {w w' : World} {v : Value} {sz n : Nat} {zs : List Int} (h : Src w v sz n zs) (hb : Below w.heap.size w w') : Src w' v sz n zs := by
  obtain ⟨h1, p, c, h2, h3, h4⟩ := h
  refine ⟨h1, p, c, h2, h3, fun a ha j z hj => ?_⟩
  have h6 := h4 a ha j z hj
  rw [hb.cell (World.block_lt_of_cell? w _ h6)]
  exact h6

theorem ivs_get {zs : List Int} {j : Nat} {u : Value} (h : (ivs zs)[j]? = some u) : ∃ z, zs[j]? = some z ∧ u = .int .i64 z := by
  unfold ivs at h
  rw [List.getElem?_map] at h
  obtain ⟨z, h1, h2⟩ := Option.map_eq_some_iff.1 h
  exact ⟨z, h1, h2.symm⟩

theorem ivs_one {zs : List Int} : ∀ u ∈ ivs zs, u.oneCell' = true := by
  intro u hu
  obtain ⟨z, _, rfl⟩ := List.mem_map.1 hu
  rfl

theorem run_copy_wide {P : Program} (w : World) (dT sT ty elem : TypeId) (sz g dLen dCap : Nat) (p : Option Addr) (sLen sCap : Nat) (cur : Array Value) (t : TypeId) (cs : List Value)
    (hu : P.underlying dT = some (.slice elem)) (hs : (P.info? elem).map (·.size) = some sz)
    (hg : w.heap[g]? = some (.cells cur t (0, 0))) (hle : sLen ≤ dLen) (hn : cs.length = sLen * sz) (hp : p = none → sLen = 0)
    (hsrc : ∀ a, p = some a → ∀ j v, cs[j]? = some v → w.cell? (a.add j) = some v) (hfit : cs.length ≤ cur.size) (h1 : ∀ v ∈ cs, v.oneCell' = true) :
    (Builtin.copy_ #[dT, sT] ty #[.slice (some ⟨g, 0, none⟩) dLen dCap, .slice p sLen sCap]).run P w =
      .ok (goInt sLen) (w.setRow g (cs ++ cur.toList.drop cs.length).toArray) := by
  have hst := run_storeCells_at P g 0 t cs 0 cur w hg (by simpa using hfit) h1
  simp only [Nat.zero_add, List.take_zero, List.nil_append] at hst
  have hm : Nat.min sLen dLen = sLen := Nat.min_eq_left hle
  cases hq : P.info? elem with
  | none => simp [hq] at hs
  | some i =>
    have hi : i.size = sz := by simpa [hq] using hs
    cases p with
    | none =>
      have h0 := hp rfl
      subst h0
      have hc : cs = [] := List.eq_nil_of_length_eq_zero (by simpa using hn)
      subst hc
      simp [Builtin.copy_, run_underlying hu, Builtin.lenOf, Builtin.firstCells, sizeOf, typeInfo, hq, hi, storeCells]
      rw [setRow_self w g cur t (0, 0) hg]
    | some a =>
      have hl := run_loadCells_list (P := P) w a cs (hsrc a rfl)
      simp [Builtin.copy_, run_underlying hu, Builtin.lenOf, Builtin.firstCells, sizeOf, typeInfo, hq, hi, hm, ← hn, hl, hst]

theorem wpList_copy_wide {P : Program} {w : World} {ops : Array Oper} {rest : List Oper} {o : Oper} {a : Act} {Q : Exit → Act → World → Prop} (hgd : o.guard = none) (d s : Operand) (dT sT : TypeId)
    (ho : o.op = .call { callee := .builtin .copy, args := #[d, s], argTypes := #[dT, sT] }) (elem : TypeId) (sz : Nat) (hu : P.underlying dT = some (.slice elem)) (hsz : (P.info? elem).map (·.size) = some sz)
    (g dLen dCap n : Nat) (v : Value) (hd : a.eval d = .slice (some ⟨g, 0, none⟩) dLen dCap) (hs : a.eval s = v)
    (cur : List Value) (t : TypeId) (hg : w.heap[g]? = some (.cells cur.toArray t (0, 0))) (zs : List Int) (hv : Src w v sz n zs) (hle : n ≤ dLen) (hfit : zs.length ≤ cur.length)
    (h : ∀ w', Hid (w'.heap[g]? = some (.cells (ivs zs ++ cur.drop zs.length).toArray t (0, 0))) → Hid (w.grownBy w' (some g)) → wpList P ops Q rest (a.put o.dst (goInt n)) w') : wpList P ops Q (o :: rest) a w := by
  obtain ⟨hz, p, c, rfl, hp, ha⟩ := hv
  have hlen : (ivs zs).length = zs.length := by simp [ivs]
  refine wpList_plain hgd fun K hK => ?_
  have hrun := run_copy_wide (P := P) w dT sT o.type elem sz g dLen dCap p n c cur.toArray t (ivs zs) hu hsz hg hle (by rw [hlen]; exact hz) hp ?_ (by rw [hlen]; simpa using hfit) ivs_one
  · unfold Oper.wp
    simp [execOp, ho, resolve, invoke, builtin, hd, hs, hrun, Result.andThen]
    refine hK _ _ (h _ (hid ?_) (hid ?_))
    · rw [hlen]; simpa using setRow_heap w g _ _ t _ hg
    · exact ⟨rfl, rfl, rfl, by simp [World.setRow], fun k hk hne => setRow_other w g k _ (fun e => hne (by rw [e]))⟩
  · intro a ea j u hj
    obtain ⟨z, h1, rfl⟩ := ivs_get hj
    exact ha a ea j z h1

theorem made_zeros (z : Array Value) (hz : z = #[.int .i64 0, .int .i64 0] ∨ z = #[.int .i64 0, .int .i64 0, .int .i64 0]) (n : Nat) : madeCells z n = (List.replicate n (Value.int .i64 0)).toArray := by
  apply Array.ext'
  apply List.ext_getElem?
  intro j
  rcases hz with rfl | rfl
  · simp [madeCells, List.getElem?_replicate, Array.getElem?_range]
    by_cases hj : j < n
    · have h2 : j % 2 < 2 := Nat.mod_lt _ (by omega)
      rcases (by omega : j % 2 = 0 ∨ j % 2 = 1) with h | h <;> simp [hj, h]
    · simp [hj]
  · simp [madeCells, List.getElem?_replicate, Array.getElem?_range]
    by_cases hj : j < n
    · have h2 : j % 3 < 3 := Nat.mod_lt _ (by omega)
      rcases (by omega : j % 3 = 0 ∨ j % 3 = 1 ∨ j % 3 = 2) with h | h | h <;> simp [hj, h]
    · simp [hj]

theorem Tryz.info54 : (Tryz.prog.info? 54).map (fun i => (i.zero, i.size, i.bytes)) = some (some (.agg #[.int .i64 0, .int .i64 0]), 2, 16) := by kernel_rfl
theorem Tryz.info46 : (Tryz.prog.info? 46).map (fun i => (i.zero, i.size, i.bytes)) = some (some (.agg #[.int .i64 0, .int .i64 0, .int .i64 0]), 3, 24) := by kernel_rfl

theorem make_any (T e sz bytes : Nat) (z : Value) (hu : Tryz.prog.underlying T = some (.slice e)) (hi : (Tryz.prog.info? e).map (fun i => (i.zero, i.size, i.bytes)) = some (some z, sz, bytes))
    (hz : z.cells = #[.int .i64 0, .int .i64 0] ∨ z.cells = #[.int .i64 0, .int .i64 0, .int .i64 0]) (n : Nat) (hb : bytes ≤ 24) (hn : n ≤ 8796093021952) (W : World) :
    (Instr.makeSlice T (.int .i64 ((n : Int) + 3)) (.int .i64 ((n : Int) + 3))).run Tryz.prog W = .ok (.slice (some ⟨W.heap.size, 0, none⟩) (n + 3) (n + 3)) (W.alloc (.cells (List.replicate ((n + 3) * sz) (Value.int .i64 0)).toArray e)) := by
  obtain ⟨i0, hi0, hz0, hz1, hz2⟩ := info_parts hi
  have hbb : (i0.bytes : Int) * ((n : Int) + 3) ≤ 281474976710656 := by
    rw [hz2]
    have : (bytes : Int) * ((n : Int) + 3) ≤ 24 * ((n : Int) + 3) := Int.mul_le_mul_of_nonneg_right (by omega) (by omega)
    omega
  have := run_make (P := Tryz.prog) W T e i0 z hu hi0 hz0 .i64 .i64 ((n : Int) + 3) ((n : Int) + 3) (by omega) (by omega) hbb (by omega)
  rw [this, hz1, made_zeros _ hz]
  have e3 : ((n : Int) + 3).toNat = n + 3 := by omega
  rw [e3]

/-- What lend has made: three lists with zeros, apart, and where they are kept. -/
def LentAt (W0 wx : World) (n1 n2 n3 X g1 g2 g3 : Nat) (l1 l2 l3 : List Value) : Prop :=
  wx.heap[X]? = some (.cells #[.slice (some ⟨g1, 0, none⟩) (n1 + 3) (n1 + 3), .slice (some ⟨g2, 0, none⟩) (n2 + 3) (n2 + 3), .slice (some ⟨g3, 0, none⟩) (n3 + 3) (n3 + 3)] 80 (0, 0)) ∧
  wx.heap[g1]? = some (.cells l1.toArray 35 (0, 0)) ∧ wx.heap[g2]? = some (.cells l2.toArray 54 (0, 0)) ∧ wx.heap[g3]? = some (.cells l3.toArray 46 (0, 0)) ∧
  Below W0.heap.size W0 wx ∧ W0.heap.size ≤ X ∧ W0.heap.size ≤ g1 ∧ W0.heap.size ≤ g2 ∧ W0.heap.size ≤ g3

theorem LentAt.old {W0 wx : World} {n1 n2 n3 X g1 g2 g3 : Nat} {l1 l2 l3 : List Value} (h : LentAt W0 wx n1 n2 n3 X g1 g2 g3 l1 l2 l3) : g1 ≠ X ∧ g2 ≠ X ∧ g3 ≠ X ∧ g1 ≠ g2 ∧ g1 ≠ g3 ∧ g2 ≠ g3 := by
  obtain ⟨e0, e1, e2, e3, _⟩ := h
  refine ⟨?_, ?_, ?_, ?_, ?_, ?_⟩
  · rintro rfl; rw [e0] at e1; simp at e1
  · rintro rfl; rw [e0] at e2; simp at e2
  · rintro rfl; rw [e0] at e3; simp at e3
  · rintro rfl; rw [e1] at e2; simp at e2
  · rintro rfl; rw [e1] at e3; simp at e3
  · rintro rfl; rw [e2] at e3; simp at e3

theorem heap_lt {w : World} {g : Nat} {o : Obj} (h : w.heap[g]? = some o) : g < w.heap.size := (Array.getElem?_eq_some_iff.1 h).1

theorem kept_at {w w' : World} {g k : Nat} {o : Obj} (hg : w.grownBy w' (some g)) (h : w.heap[k]? = some o) (hk : k ≠ g) : w'.heap[k]? = some o :=
  (hg.block k (heap_lt h) (by simpa using hk)).trans h

theorem LentAt.one {W0 wx w' : World} {n1 n2 n3 X g1 g2 g3 : Nat} {l1 l2 l3 l : List Value} (h : LentAt W0 wx n1 n2 n3 X g1 g2 g3 l1 l2 l3) (hg : wx.grownBy w' (some g1)) (hl : w'.heap[g1]? = some (.cells l.toArray 35 (0, 0))) : LentAt W0 w' n1 n2 n3 X g1 g2 g3 l l2 l3 := by
  obtain ⟨a1, a2, a3, a4, a5, a6⟩ := h.old
  obtain ⟨e0, e1, e2, e3, hb, k0, k1, k2, k3⟩ := h
  exact ⟨kept_at hg e0 a1.symm, hl, kept_at hg e2 a4.symm, kept_at hg e3 a5.symm, hb.grown hg hb.size (by rintro k e; cases e; exact k1), k0, k1, k2, k3⟩

theorem LentAt.two {W0 wx w' : World} {n1 n2 n3 X g1 g2 g3 : Nat} {l1 l2 l3 l : List Value} (h : LentAt W0 wx n1 n2 n3 X g1 g2 g3 l1 l2 l3) (hg : wx.grownBy w' (some g2)) (hl : w'.heap[g2]? = some (.cells l.toArray 54 (0, 0))) : LentAt W0 w' n1 n2 n3 X g1 g2 g3 l1 l l3 := by
  obtain ⟨a1, a2, a3, a4, a5, a6⟩ := h.old
  obtain ⟨e0, e1, e2, e3, hb, k0, k1, k2, k3⟩ := h
  exact ⟨kept_at hg e0 a2.symm, kept_at hg e1 a4, hl, kept_at hg e3 a6.symm, hb.grown hg hb.size (by rintro k e; cases e; exact k2), k0, k1, k2, k3⟩

theorem LentAt.three {W0 wx w' : World} {n1 n2 n3 X g1 g2 g3 : Nat} {l1 l2 l3 l : List Value} (h : LentAt W0 wx n1 n2 n3 X g1 g2 g3 l1 l2 l3) (hg : wx.grownBy w' (some g3)) (hl : w'.heap[g3]? = some (.cells l.toArray 46 (0, 0))) : LentAt W0 w' n1 n2 n3 X g1 g2 g3 l1 l2 l := by
  obtain ⟨a1, a2, a3, a4, a5, a6⟩ := h.old
  obtain ⟨e0, e1, e2, e3, hb, k0, k1, k2, k3⟩ := h
  exact ⟨kept_at hg e0 a3.symm, kept_at hg e1 a5, kept_at hg e2 a6, hl, hb.grown hg hb.size (by rintro k e; cases e; exact k3), k0, k1, k2, k3⟩

theorem tail_zeros {zs : List Int} {n sz : Nat} {Z : List Value} (hz : zs.length = n * sz) (hZ : Z = List.replicate ((n + 3) * sz) (Value.int .i64 0)) : ivs zs ++ Z.drop zs.length = ivs zs ++ List.replicate (3 * sz) (Value.int .i64 0) := by
  subst hZ
  rw [List.drop_replicate, hz, Nat.add_mul, Nat.add_sub_cancel_left]

theorem zeros_fit {zs : List Int} {n sz : Nat} {Z : List Value} (hz : zs.length = n * sz) (hZ : Z = List.replicate ((n + 3) * sz) (Value.int .i64 0)) : zs.length ≤ Z.length := by
  subst hZ
  rw [hz, List.length_replicate]
  exact Nat.mul_le_mul_right _ (by omega)

theorem heap_new (w : World) (o : Obj) : (w.alloc o).heap[w.heap.size]? = some o := by
  show (w.heap.push o)[_]? = _
  simp

theorem size_new (w : World) (o : Obj) : (w.alloc o).heap.size = w.heap.size + 1 := by
  show (w.heap.push o).size = _
  simp

theorem lent_of {W0 wx : World} {n1 n2 n3 X g1 g2 g3 : Nat} {l1 l2 l3 : List Value} (h0 : wx.heap[X]? = some (.cells #[.slice (some ⟨g1, 0, none⟩) (n1 + 3) (n1 + 3), .slice (some ⟨g2, 0, none⟩) (n2 + 3) (n2 + 3), .slice (some ⟨g3, 0, none⟩) (n3 + 3) (n3 + 3)] 80 (0, 0)))
    (h1 : wx.heap[g1]? = some (.cells l1.toArray 35 (0, 0))) (h2 : wx.heap[g2]? = some (.cells l2.toArray 54 (0, 0))) (h3 : wx.heap[g3]? = some (.cells l3.toArray 46 (0, 0)))
    (h4 : Below W0.heap.size W0 wx) (h5 : W0.heap.size ≤ X) (h6 : W0.heap.size ≤ g1) (h7 : W0.heap.size ≤ g2) (h8 : W0.heap.size ≤ g3) :
    ∃ X' g1 g2 g3, Value.pointer (some ⟨X, 0, none⟩) = .pointer (some ⟨X', 0, none⟩) ∧ Hid (LentAt W0 wx n1 n2 n3 X' g1 g2 g3 l1 l2 l3) :=
  ⟨X, g1, g2, g3, rfl, h0, h1, h2, h3, h4, h5, h6, h7, h8⟩

theorem heap_four (W0 : World) (o0 o1 o2 o3 : Obj) :
    ((((W0.alloc o0).alloc o1).alloc o2).alloc o3).drew.heap[W0.heap.size]? = some o0 ∧ ((((W0.alloc o0).alloc o1).alloc o2).alloc o3).drew.heap[W0.heap.size + 1]? = some o1 ∧
    ((((W0.alloc o0).alloc o1).alloc o2).alloc o3).drew.heap[W0.heap.size + 1 + 1]? = some o2 ∧ ((((W0.alloc o0).alloc o1).alloc o2).alloc o3).drew.heap[W0.heap.size + 1 + 1 + 1]? = some o3 ∧
    Below W0.heap.size W0 ((((W0.alloc o0).alloc o1).alloc o2).alloc o3).drew := by
  have e (W : World) : W.drew.heap = W.heap := rfl
  rw [e]
  have s1 := size_new W0 o0
  have s2 := size_new (W0.alloc o0) o1
  have s3 := size_new ((W0.alloc o0).alloc o1) o2
  refine ⟨?_, ?_, ?_, ?_, ?_⟩
  · rw [Below.heap_alloc _ _ _ (by omega), Below.heap_alloc _ _ _ (by omega), Below.heap_alloc _ _ _ (by omega)]
    exact heap_new _ _
  · rw [Below.heap_alloc _ _ _ (by omega), Below.heap_alloc _ _ _ (by omega), ← s1]
    exact heap_new _ _
  · rw [Below.heap_alloc _ _ _ (by omega), ← s1, ← s2]
    exact heap_new _ _
  · rw [← s1, ← s2, ← s3]
    exact heap_new _ _
  · exact (((((Below.refl _ _).alloc (Nat.le_refl _) _).alloc (by omega) _).alloc (by omega) _).alloc (by omega) _).drew

theorem heap_cell {w : World} {g : Nat} {cs : Array Value} {t : TypeId} (h : w.heap[g]? = some (.cells cs t (0, 0))) (j : Nat) : w.cell? ⟨g, j, none⟩ = cs[j]? := by
  simp [World.cell?, h]
theorem heap_free {w : World} {g : Nat} {cs : Array Value} {t : TypeId} (h : w.heap[g]? = some (.cells cs t (0, 0))) (j : Nat) : w.frozen? ⟨g, j, none⟩ = false := by
  simp [World.frozen?, h]

theorem wrap3 (n : Nat) (hn : n ≤ 8796093021952) : IntKind.i64.wrap ((n : Int) + 3) = (n : Int) + 3 := by rw [IntKind.wrap_i64]; omega

set_option maxRecDepth 100000 in
set_option maxHeartbeats 2000000 in
theorem lend_any (w : World) (kd x y : Int) (v1 v2 v3 : Value) (n1 n2 n3 : Nat) (z1 z2 z3 : List Int) (h1 : n1 ≤ 8796093021952) (h2 : n2 ≤ 8796093021952) (h3 : n3 ≤ 8796093021952)
    (s1 : Src w v1 2 n1 z1) (s2 : Src w v2 2 n2 z2) (s3 : Src w v3 3 n3 z3) :
    Calls Tryz.prog 45 #[opV kd v1 v2 v3 x y] w fun e w' => ∃ g1 g2 g3,
      e = .returned (.agg #[.slice (some ⟨g1, 0, none⟩) (n1 + 3) (n1 + 3), .slice (some ⟨g2, 0, none⟩) (n2 + 3) (n2 + 3), .slice (some ⟨g3, 0, none⟩) (n3 + 3) (n3 + 3)]) ∧
      w'.heap[g1]? = some (.cells (ivs z1 ++ List.replicate 6 (Value.int .i64 0)).toArray 35 (0, 0)) ∧
      w'.heap[g2]? = some (.cells (ivs z2 ++ List.replicate 6 (Value.int .i64 0)).toArray 54 (0, 0)) ∧
      w'.heap[g3]? = some (.cells (ivs z3 ++ List.replicate 9 (Value.int .i64 0)).toArray 46 (0, 0)) ∧
      Below w.heap.size w w' ∧ w.heap.size ≤ g1 ∧ w.heap.size ≤ g2 ∧ w.heap.size ≤ g3 := by
  have HS1 := hid s1
  have HS2 := hid s2
  have HS3 := hid s3
  obtain ⟨u1, p1, c1, rfl, t1⟩ := s1
  obtain ⟨u2, p2, c2, rfl, t2⟩ := s2
  obtain ⟨u3, p3, c3, rfl, t3⟩ := s3
  have U1 := hid u1
  have U2 := hid u2
  have U3 := hid u3
  clear u1 u2 u3 t1 t2 t3
  have j1 := wrap3 n1 h1
  have j2 := wrap3 n2 h2
  have j3 := wrap3 n3 h3
  obtain ⟨Z1, hZ1⟩ : ∃ Z1, Z1 = List.replicate ((n1 + 3) * 2) (Value.int .i64 0) := ⟨_, rfl⟩
  obtain ⟨Z2, hZ2⟩ : ∃ Z2, Z2 = List.replicate ((n2 + 3) * 2) (Value.int .i64 0) := ⟨_, rfl⟩
  obtain ⟨Z3, hZ3⟩ : ∃ Z3, Z3 = List.replicate ((n3 + 3) * 3) (Value.int .i64 0) := ⟨_, rfl⟩
  have i1 : ∀ W, (Instr.makeSlice 26 (.int .i64 ((n1 : Int) + 3)) (.int .i64 ((n1 : Int) + 3))).run Tryz.prog W = .ok (.slice (some ⟨W.heap.size, 0, none⟩) (n1 + 3) (n1 + 3)) (W.alloc (.cells Z1.toArray 35)) := fun W => by rw [hZ1]; exact make_any 26 35 2 16 _ Tryz.underlying26 Tryz.info35 (.inl rfl) n1 (by omega) h1 W
  have i2 : ∀ W, (Instr.makeSlice 48 (.int .i64 ((n2 : Int) + 3)) (.int .i64 ((n2 : Int) + 3))).run Tryz.prog W = .ok (.slice (some ⟨W.heap.size, 0, none⟩) (n2 + 3) (n2 + 3)) (W.alloc (.cells Z2.toArray 54)) := fun W => by rw [hZ2]; exact make_any 48 54 2 16 _ Tryz.underlying48 Tryz.info54 (.inl rfl) n2 (by omega) h2 W
  have i3 : ∀ W, (Instr.makeSlice 28 (.int .i64 ((n3 : Int) + 3)) (.int .i64 ((n3 : Int) + 3))).run Tryz.prog W = .ok (.slice (some ⟨W.heap.size, 0, none⟩) (n3 + 3) (n3 + 3)) (W.alloc (.cells Z3.toArray 46)) := fun W => by rw [hZ3]; exact make_any 28 46 3 24 _ Tryz.underlying28 Tryz.info46 (.inr rfl) n3 (by omega) h3 W
  have HZ1 := hid hZ1
  have HZ2 := hid hZ2
  have HZ3 := hid hZ3
  clear hZ1 hZ2 hZ3
  unfold opV
  go_enter Tryz.func45, Tryz.ntmps45
  go_upto_region 1 with fail
  obtain ⟨W0, hW⟩ : ∃ W0 : World, W0 = (w.alloc (.cells #[.int .i64 kd, .slice p1 n1 c1, .slice p2 n2 c2, .slice p3 n3 c3, .int .i64 x, .int .i64 y] 62)).alloc (.cells #[.slice none 0 0, .slice none 0 0, .slice none 0 0] 80) := ⟨_, rfl⟩
  rw [← hW]
  have hbx : W0.heap[w.heap.size]? = some (.cells #[.int .i64 kd, .slice p1 n1 c1, .slice p2 n2 c2, .slice p3 n3 c3, .int .i64 x, .int .i64 y] 62 (0, 0)) := by subst hW; rw [Below.heap_alloc _ _ _ (by rw [size_new]; omega)]; exact heap_new _ _
  have hrs : W0.heap[w.heap.size + 1]? = some (.cells #[.slice none 0 0, .slice none 0 0, .slice none 0 0] 80 (0, 0)) := by subst hW; rw [← size_new w]; exact heap_new _ _
  have hsz : W0.heap.size = w.heap.size + 2 := by subst hW; simp
  have hb0 : Below w.heap.size w W0 := by subst hW; exact ((Below.refl _ _).alloc (Nat.le_refl _) _).alloc (by simp) _
  have b1 : W0.cell? ⟨w.heap.size, 1, none⟩ = some (.slice p1 n1 c1) := heap_cell hbx 1
  have b2 : W0.cell? ⟨w.heap.size, 2, none⟩ = some (.slice p2 n2 c2) := heap_cell hbx 2
  have b3 : W0.cell? ⟨w.heap.size, 3, none⟩ = some (.slice p3 n3 c3) := heap_cell hbx 3
  have HBX := hid hbx
  have HRS := hid hrs
  have HSZ := hid hsz
  have HB0 := hid hb0
  clear hW hbx hrs hsz hb0
  go_cut [3] (fun v wx => ∃ X g1 g2 g3, v = .pointer (some ⟨X, 0, none⟩) ∧ Hid (LentAt W0 wx n1 n2 n3 X g1 g2 g3 Z1 Z2 Z3))
  case first =>
    have nn := World.new_ne W0 ⟨w.heap.size, 1, none⟩ b1
    go_region_held3 (fun w' => w'.cell? ⟨w.heap.size, 1, none⟩ = some (.slice p1 n1 c1) ∧ w'.cell? ⟨w.heap.size, 2, none⟩ = some (.slice p2 n2 c2) ∧ w'.cell? ⟨w.heap.size, 3, none⟩ = some (.slice p3 n3 c3)) (simp (maxDischargeDepth := 20) [*, World.cell?_alloc_some, World.cell?_setCell_far]) (fail)
    all_goals go_wp2_with fail
    all_goals go_meet
    all_goals
      have HF := heap_four
      apply lent_of
      · first | exact (HF _ _ _ _ _).1 | exact (HF _ _ _ _ _).2.1 | exact (HF _ _ _ _ _).2.2.1 | exact (HF _ _ _ _ _).2.2.2.1
      · first | exact (HF _ _ _ _ _).1 | exact (HF _ _ _ _ _).2.1 | exact (HF _ _ _ _ _).2.2.1 | exact (HF _ _ _ _ _).2.2.2.1
      · first | exact (HF _ _ _ _ _).1 | exact (HF _ _ _ _ _).2.1 | exact (HF _ _ _ _ _).2.2.1 | exact (HF _ _ _ _ _).2.2.2.1
      · first | exact (HF _ _ _ _ _).1 | exact (HF _ _ _ _ _).2.1 | exact (HF _ _ _ _ _).2.2.1 | exact (HF _ _ _ _ _).2.2.2.1
      · exact (HF _ _ _ _ _).2.2.2.2
      all_goals omega
  case rest =>
    obtain ⟨X, g1, g2, g3, rfl, hL⟩ := hcut
    clear i1 i2 i3 j1 j2 j3
    have lo : w.heap.size < W0.heap.size := by rw [HSZ.out]; omega
    have hc0 : Hid (Below w.heap.size w wc) := hid (HB0.out.trans (hL.out.2.2.2.2.1.mono HB0.out.size))
    have x0 : wc.cell? ⟨X, 0, none⟩ = some (.slice (some ⟨g1, 0, none⟩) (n1 + 3) (n1 + 3)) := heap_cell hL.out.1 0
    have y1 : wc.cell? ⟨w.heap.size, 1, none⟩ = some (.slice p1 n1 c1) := (hL.out.2.2.2.2.1.cell lo).trans b1
    go_wp2_with (refine wpList_copy_wide rfl (.tmp 21) (.tmp 23) 26 26 rfl 35 2 Tryz.underlying26 (by kernel_rfl) g1 (n1 + 3) (n1 + 3) n1 _ rfl rfl _ 35 hL.out.2.1 z1 (HS1.out.below hc0.out) (by omega) (zeros_fit U1.out HZ1.out) ?_)
    intro w2 q2 hg2
    have hL2 := hid (hL.out.one hg2.out q2.out)
    have hc2 : Hid (Below w.heap.size w w2) := hid (HB0.out.trans (hL2.out.2.2.2.2.1.mono HB0.out.size))
    have x1 : w2.cell? ⟨X, 1, none⟩ = some (.slice (some ⟨g2, 0, none⟩) (n2 + 3) (n2 + 3)) := heap_cell hL2.out.1 1
    have y2 : w2.cell? ⟨w.heap.size, 2, none⟩ = some (.slice p2 n2 c2) := (hL2.out.2.2.2.2.1.cell lo).trans b2
    clear x0 y1
    go_wp2_with (refine wpList_copy_wide rfl (.tmp 26) (.tmp 28) 48 48 rfl 54 2 Tryz.underlying48 (by kernel_rfl) g2 (n2 + 3) (n2 + 3) n2 _ rfl rfl _ 54 hL2.out.2.2.1 z2 (HS2.out.below hc2.out) (by omega) (zeros_fit U2.out HZ2.out) ?_)
    intro w3 q3 hg3
    have hL3 := hid (hL2.out.two hg3.out q3.out)
    have hc3 : Hid (Below w.heap.size w w3) := hid (HB0.out.trans (hL3.out.2.2.2.2.1.mono HB0.out.size))
    have x2 : w3.cell? ⟨X, 2, none⟩ = some (.slice (some ⟨g3, 0, none⟩) (n3 + 3) (n3 + 3)) := heap_cell hL3.out.1 2
    have y3 : w3.cell? ⟨w.heap.size, 3, none⟩ = some (.slice p3 n3 c3) := (hL3.out.2.2.2.2.1.cell lo).trans b3
    clear x1 y2
    go_wp2_with (refine wpList_copy_wide rfl (.tmp 31) (.tmp 33) 28 28 rfl 46 3 Tryz.underlying28 (by kernel_rfl) g3 (n3 + 3) (n3 + 3) n3 _ rfl rfl _ 46 hL3.out.2.2.2.1 z3 (HS3.out.below hc3.out) (by omega) (zeros_fit U3.out HZ3.out) ?_)
    intro w4 q4 hg4
    have hL4 := hid (hL3.out.three hg4.out q4.out)
    have hc4 : Hid (Below w.heap.size w w4) := hid (HB0.out.trans (hL4.out.2.2.2.2.1.mono HB0.out.size))
    have lo1 : w.heap.size + 1 < W0.heap.size := by rw [HSZ.out]; omega
    have x40 : w4.cell? ⟨X, 0, none⟩ = some (.slice (some ⟨g1, 0, none⟩) (n1 + 3) (n1 + 3)) := heap_cell hL4.out.1 0
    have x41 : w4.cell? ⟨X, 1, none⟩ = some (.slice (some ⟨g2, 0, none⟩) (n2 + 3) (n2 + 3)) := heap_cell hL4.out.1 1
    have x42 : w4.cell? ⟨X, 2, none⟩ = some (.slice (some ⟨g3, 0, none⟩) (n3 + 3) (n3 + 3)) := heap_cell hL4.out.1 2
    have r4 : Hid (w4.heap[w.heap.size + 1]? = some (.cells #[.slice none 0 0, .slice none 0 0, .slice none 0 0] 80 (0, 0))) := hid ((hL4.out.2.2.2.2.1.block _ lo1).trans HRS.out)
    have r40 : w4.cell? ⟨w.heap.size + 1, 0, none⟩ = some (.slice none 0 0) := heap_cell r4.out 0
    have r41 : w4.cell? ⟨w.heap.size + 1, 1, none⟩ = some (.slice none 0 0) := heap_cell r4.out 1
    have r42 : w4.cell? ⟨w.heap.size + 1, 2, none⟩ = some (.slice none 0 0) := heap_cell r4.out 2
    have f40 : w4.frozen? ⟨w.heap.size + 1, 0, none⟩ = false := heap_free r4.out 0
    have f41 : w4.frozen? ⟨w.heap.size + 1, 1, none⟩ = false := heap_free r4.out 1
    have f42 : w4.frozen? ⟨w.heap.size + 1, 2, none⟩ = false := heap_free r4.out 2
    clear x2 y3
    go_wp2
    have oth : ∀ g, w.heap.size + 1 ≠ g → ∀ (a b c : Value), (((w4.setCell ⟨w.heap.size + 1, 0, none⟩ a).setCell ⟨w.heap.size + 1, 1, none⟩ b).setCell ⟨w.heap.size + 1, 2, none⟩ c).heap[g]? = w4.heap[g]? := by
      intro g hg a b c
      rw [Below.heap_setCell _ _ _ _ (fun e => hg e.symm), Below.heap_setCell _ _ _ _ (fun e => hg e.symm), Below.heap_setCell _ _ _ _ (fun e => hg e.symm)]
    obtain ⟨e0, e1, e2, e3, hb, k0, k1, k2, k3⟩ := hL4.out
    rw [HSZ.out] at k0 k1 k2 k3
    refine bodyPost_ret (v := .agg #[.slice (some ⟨g1, 0, none⟩) (n1 + 3) (n1 + 3), .slice (some ⟨g2, 0, none⟩) (n2 + 3) (n2 + 3), .slice (some ⟨g3, 0, none⟩) (n3 + 3) (n3 + 3)]) ?r rfl ?q
    case r => simp [results, Tryz.results45, go_sem, r40, r41, r42]
    case q =>
      refine ⟨g1, g2, g3, rfl, ?_, ?_, ?_, ?_, by omega, by omega, by omega⟩
      · rw [oth _ (by omega), e1, tail_zeros U1.out HZ1.out]
      · rw [oth _ (by omega), e2, tail_zeros U2.out HZ2.out]
      · rw [oth _ (by omega), e3, tail_zeros U3.out HZ3.out]
      · exact ((hc4.out.setCell (by show w.heap.size ≤ w.heap.size + 1; omega) _).setCell (by show w.heap.size ≤ w.heap.size + 1; omega) _).setCell (by show w.heap.size ≤ w.heap.size + 1; omega) _
end Go.Proofs.YtdbebbbceeopaaaGreat

set_option linter.unusedSimpArgs false
namespace Go.Proofs.YtdbebbbceeopaaaGreat
open Go.RowKit

theorem eq33 (a b : Int) (W : World) : (binOp .eql 35 (.agg #[.int .i64 a, .int .i64 b]) (.agg #[.int .i64 a, .int .i64 b])).run Tryz.prog W = .ok (.bool true) W := by
  have := eqPt.1 (a, b) (a, b) W
  simpa [encPt] using this

/-- A list that is written over from its head on, k elements of it so far. -/
def over (l c : List Value) (k : Nat) : List Value := (List.replicate k c).flatten ++ l.drop (k * c.length)

theorem over_zero (l c : List Value) : over l c 0 = l := by simp [over]

theorem flat_len (c : List Value) (k : Nat) : (List.replicate k c).flatten.length = k * c.length := by simp [List.length_flatten]

theorem over_get (l c : List Value) (k j : Nat) (hj : k * c.length ≤ j) : (over l c k)[j]? = l[j]? := by
  unfold over
  rw [List.getElem?_append_right (by rw [flat_len]; exact hj), flat_len, List.getElem?_drop]
  congr 1
  omega

theorem over_two (l : List Value) (a b : Value) (k : Nat) (h : k * 2 + 1 < l.length) : ((over l [a, b] k).set (k * 2) a).set (k * 2 + 1) b = over l [a, b] (k + 1) := by
  have e : l.drop (k * 2) = l[k * 2] :: l[k * 2 + 1] :: l.drop ((k + 1) * 2) := by
    rw [List.drop_eq_getElem_cons (by omega), List.drop_eq_getElem_cons (by omega)]
    congr 3
    omega
  have f : (List.replicate k [a, b]).flatten.length = k * 2 := flat_len [a, b] k
  unfold over
  rw [List.replicate_succ', List.flatten_append]
  simp only [List.length_cons, List.length_nil, List.flatten_cons, List.flatten_nil, List.append_nil]
  rw [show (0 + 1 + 1 : Nat) = 2 from rfl, e, List.set_append_right (k * 2) _ (by omega), f, Nat.sub_self, List.set_append_right (k * 2 + 1) _ (by omega), f, show k * 2 + 1 - k * 2 = 1 by omega]
  simp

theorem over_three (l : List Value) (a b c : Value) (k : Nat) (h : k * 3 + 2 < l.length) : (((over l [a, b, c] k).set (k * 3) a).set (k * 3 + 1) b).set (k * 3 + 2) c = over l [a, b, c] (k + 1) := by
  have e : l.drop (k * 3) = l[k * 3] :: l[k * 3 + 1] :: l[k * 3 + 2] :: l.drop ((k + 1) * 3) := by
    rw [List.drop_eq_getElem_cons (by omega), List.drop_eq_getElem_cons (by omega), List.drop_eq_getElem_cons (by omega)]
    congr 4
    omega
  have f : (List.replicate k [a, b, c]).flatten.length = k * 3 := flat_len [a, b, c] k
  unfold over
  rw [List.replicate_succ', List.flatten_append]
  simp only [List.length_cons, List.length_nil, List.flatten_cons, List.flatten_nil, List.append_nil]
  rw [show (0 + 1 + 1 + 1 : Nat) = 3 from rfl, e, List.set_append_right (k * 3) _ (by omega), f, Nat.sub_self, List.set_append_right (k * 3 + 1) _ (by omega), f, show k * 3 + 1 - k * 3 = 1 by omega, List.set_append_right (k * 3 + 2) _ (by omega), f, show k * 3 + 2 - k * 3 = 2 by omega]
  simp

theorem heap_set {w : World} {g : Nat} {l : List Value} {t : TypeId} (h : w.heap[g]? = some (.cells l.toArray t (0, 0))) (o : Nat) (u : Value) : (w.setCell ⟨g, o, none⟩ u).heap[g]? = some (.cells (l.set o u).toArray t (0, 0)) := by
  simp only [World.setCell, Array.getElem?_modify, if_true, h, Option.map_some]
  simp

/-- A list of its owner's, k elements written over; nothing else that was there has turned. -/
structure Ov (W wr : World) (g t : Nat) (l c : List Value) (k : Nat) : Prop where
  heap : wr.heap[g]? = some (.cells (over l c k).toArray t (0, 0))
  grown : W.grownBy wr (some g)

theorem grown_trans {a b c : World} {g : Nat} (h : a.grownBy b (some g)) (k : b.grownBy c (some g)) : a.grownBy c (some g) :=
  ⟨k.os.trans h.os, k.tape.trans h.tape, k.output.trans h.output, Nat.le_trans h.size k.size, fun i hi hne => (k.block i (Nat.lt_of_lt_of_le hi h.size) hne).trans (h.block i hi hne)⟩

theorem grown_set (w : World) (g o : Nat) (u : Value) : w.grownBy (w.setCell ⟨g, o, none⟩ u) (some g) :=
  ⟨rfl, rfl, rfl, by simp [World.setCell], fun k _ hne => Below.heap_setCell _ _ _ _ (fun e => hne (by rw [e]))⟩

theorem grown_drew {a b : World} {r : Option Nat} (h : a.grownBy b r) : a.grownBy b.drew r := ⟨h.os, h.tape, h.output, h.size, h.block⟩

theorem Ov.alloc {W wr : World} {g t k : Nat} {l c : List Value} (h : Ov W wr g t l c k) (o : Obj) : Ov W (wr.alloc o) g t l c k :=
  ⟨(Below.heap_alloc _ _ _ (heap_lt h.heap)).trans h.heap, grown_trans h.grown (World.grownBy_alloc _ _ _)⟩

theorem Ov.drew {W wr : World} {g t k : Nat} {l c : List Value} (h : Ov W wr g t l c k) : Ov W wr.drew g t l c k := ⟨h.heap, grown_drew h.grown⟩

theorem Ov.two {W wr : World} {g t k : Nat} {l : List Value} {a b : Value} (h : Ov W wr g t l [a, b] k) (hk : k * 2 + 1 < l.length) : Ov W ((wr.setCell ⟨g, k * 2, none⟩ a).setCell ⟨g, k * 2 + 1, none⟩ b) g t l [a, b] (k + 1) := by
  refine ⟨?_, grown_trans (grown_trans h.grown (grown_set _ _ _ _)) (grown_set _ _ _ _)⟩
  rw [← over_two l a b k hk]
  exact heap_set (heap_set h.heap _ _) _ _

theorem Ov.three {W wr : World} {g t k : Nat} {l : List Value} {a b c : Value} (h : Ov W wr g t l [a, b, c] k) (hk : k * 3 + 2 < l.length) : Ov W (((wr.setCell ⟨g, k * 3, none⟩ a).setCell ⟨g, k * 3 + 1, none⟩ b).setCell ⟨g, k * 3 + 2, none⟩ c) g t l [a, b, c] (k + 1) := by
  refine ⟨?_, grown_trans (grown_trans (grown_trans h.grown (grown_set _ _ _ _)) (grown_set _ _ _ _)) (grown_set _ _ _ _)⟩
  rw [← over_three l a b c k hk]
  exact heap_set (heap_set (heap_set h.heap _ _) _ _) _ _

theorem Ov.cell {W wr : World} {g t k : Nat} {l c : List Value} (h : Ov W wr g t l c k) (j : Nat) (hj : k * c.length ≤ j) : wr.cell? ⟨g, j, none⟩ = l[j]? := by
  rw [heap_cell h.heap]
  simpa using over_get l c k j hj

theorem Ov.other {W wr : World} {g t k : Nat} {l c : List Value} (h : Ov W wr g t l c k) {b o : Nat} (hb : b < W.heap.size) (hne : b ≠ g) : wr.cell? ⟨b, o, none⟩ = W.cell? ⟨b, o, none⟩ :=
  World.cell?_of_block (w := W) (a := ⟨b, o, none⟩) (h.grown.block b hb (by simpa using hne))

theorem new_cell {w : World} {b o : Nat} {v : Value} (h : w.cell? ⟨b, o, none⟩ = some v) : ∀ x, (w.alloc x).cell? ⟨b, o, none⟩ = some v := fun _ => (World.cell?_alloc_lt _ _ _ (World.block_lt_of_cell? w _ h)).trans h

theorem new_free {w : World} {b o : Nat} (hb : b < w.heap.size) (h : w.frozen? ⟨b, o, none⟩ = false) : ∀ x, (w.alloc x).frozen? ⟨b, o, none⟩ = false := fun _ => (World.frozen?_of_block (w := w) (a := ⟨b, o, none⟩) (Below.heap_alloc _ _ _ hb)).trans h

/-- What the list holds at j: the given number, or zero. -/
theorem lent_get (zs : List Int) (m j : Nat) (hj : j < zs.length + m) : (ivs zs ++ List.replicate m (Value.int .i64 0))[j]? = some (.int .i64 (zs.getD j 0)) := by
  by_cases h : j < zs.length
  · rw [List.getElem?_append_left (by simpa [ivs] using h)]
    simp [ivs, h]
  · rw [List.getElem?_append_right (by simpa [ivs] using h)]
    simp [ivs, List.getElem?_replicate, List.getD]
    rw [List.getElem?_eq_none (by omega)]
    simp
    omega

theorem Src.at {w : World} {p : Option Addr} {sz n c : Nat} {zs : List Int} (h : Src w (.slice p n c) sz n zs) (hn : 0 < n) (hs : 0 < sz) : ∃ b o, p = some ⟨b, o, none⟩ ∧ b < w.heap.size ∧ ∀ j, j < n * sz → w.cell? ⟨b, o + j, none⟩ = some (.int .i64 (zs.getD j 0)) := by
  obtain ⟨h1, p', c', h2, h3, h4⟩ := h
  cases h2
  cases p with
  | none => have := h3 rfl; omega
  | some a =>
    have h6 := h4 a rfl
    have hlen : 0 < zs.length := by rw [h1]; exact Nat.mul_pos hn hs
    have h0 := h6 0 zs[0] (List.getElem?_eq_getElem hlen)
    have hsp := World.cell?_spot h0
    obtain ⟨b, o, sp⟩ := a
    simp [Addr.add] at hsp
    subst hsp
    refine ⟨b, o, rfl, World.block_lt_of_cell? w _ h0, fun j hj => ?_⟩
    have := h6 j zs[j] (List.getElem?_eq_getElem (by omega))
    have hd : zs.getD j 0 = zs[j] := by simp [List.getD, List.getElem?_eq_getElem (show j < zs.length by omega)]
    rw [hd]
    unfold Addr.add at this
    split at this
    · rename_i h; subst h; exact this
    · exact this

theorem eq83 (a b : Int) (W : World) : (binOp .eql 54 (.agg #[.int .i64 a, .int .i64 b]) (.agg #[.int .i64 a, .int .i64 b])).run Tryz.prog W = .ok (.bool true) W := by
  have u3 := Tryz.underlying3
  have a3 := Tryz.isAgg3
  have z3 := Tryz.sizeOf3
  have hS : Tryz.prog.underlying 54 = some (.struct (Tryz.prog.fieldsOf 54)) := by kernel_rfl
  have hp : Tryz.prog.stoodInHeld 54 = false := by kernel_rfl
  rw [run_eql_struct, show (10000 : Nat) = 9999 + 1 from rfl, run_equalIn_agg W 9999 54 _ _ hS hp]
  simp only [Program.fieldsOf, Tryz.underlying54]
  go_simp

theorem eq66 (a b c : Int) (W : World) : (binOp .eql 46 (.agg #[.int .i64 a, .int .i64 b, .int .i64 c]) (.agg #[.int .i64 a, .int .i64 b, .int .i64 c])).run Tryz.prog W = .ok (.bool true) W := by
  have u3 := Tryz.underlying3
  have a3 := Tryz.isAgg3
  have z3 := Tryz.sizeOf3
  have hS : Tryz.prog.underlying 46 = some (.struct (Tryz.prog.fieldsOf 46)) := by kernel_rfl
  have hp : Tryz.prog.stoodInHeld 46 = false := by kernel_rfl
  rw [run_eql_struct, show (10000 : Nat) = 9999 + 1 from rfl, run_equalIn_agg W 9999 46 _ _ hS hp]
  simp only [Program.fieldsOf, Tryz.underlying46]
  go_simp

/-- What 'still' finds where it begins its next loop: its two arguments in blocks of their own; of what was there nothing has turned but the lent lists. -/
structure Sb (w W : World) (b0 g1 g2 g3 : Nat) (bx bo : Array Value) : Prop where
  hbx : W.heap[b0]? = some (.cells bx 80 (0, 0))
  hbo : W.heap[b0 + 1]? = some (.cells bo 62 (0, 0))
  b0w : b0 = w.heap.size
  os : W.os = w.os
  tape : W.tape = w.tape
  output : W.output = w.output
  size : w.heap.size + 2 ≤ W.heap.size
  kept : ∀ k, k < w.heap.size → k ≠ g1 → k ≠ g2 → k ≠ g3 → W.heap[k]? = w.heap[k]?

theorem Sb.step {w W W' : World} {b0 g1 g2 g3 g : Nat} {bx bo : Array Value} (h : Sb w W b0 g1 g2 g3 bx bo) (hg : W.grownBy W' (some g)) (he : g = g1 ∨ g = g2 ∨ g = g3) (hl : g < b0) : Sb w W' b0 g1 g2 g3 bx bo := by
  have := h.b0w
  have := h.size
  refine ⟨(hg.block _ (by omega) (by simp; omega)).trans h.hbx, (hg.block _ (by omega) (by simp; omega)).trans h.hbo, h.b0w, hg.os.trans h.os, hg.tape.trans h.tape, hg.output.trans h.output, Nat.le_trans h.size hg.size, fun k hk k1 k2 k3 => ?_⟩
  rw [hg.block k (by omega) (by simp; rcases he with rfl | rfl | rfl <;> assumption)]
  exact h.kept k hk k1 k2 k3

theorem Sb.x {w W : World} {b0 g1 g2 g3 : Nat} {bx bo : Array Value} (h : Sb w W b0 g1 g2 g3 bx bo) {wr : World} {g t k : Nat} {l c : List Value} (hO : Ov W wr g t l c k) (hl : g < b0) (j : Nat) : wr.cell? ⟨b0, j, none⟩ = bx[j]? := by
  have := h.b0w
  have := h.size
  rw [hO.other (by omega) (by omega)]
  exact heap_cell h.hbx j

theorem Sb.o {w W : World} {b0 g1 g2 g3 : Nat} {bx bo : Array Value} (h : Sb w W b0 g1 g2 g3 bx bo) {wr : World} {g t k : Nat} {l c : List Value} (hO : Ov W wr g t l c k) (hl : g < b0) (j : Nat) : wr.cell? ⟨b0 + 1, j, none⟩ = bo[j]? := by
  have := h.b0w
  have := h.size
  rw [hO.other (by omega) (by omega)]
  exact heap_cell h.hbo j

theorem Sb.q {w W : World} {b0 g1 g2 g3 : Nat} {bx bo : Array Value} (h : Sb w W b0 g1 g2 g3 bx bo) {wr : World} {g t k S q : Nat} {l c : List Value} (hO : Ov W wr g t l c k) (hq : q < S) (hw : q < w.heap.size) (h1 : S ≤ g1) (h2 : S ≤ g2) (h3 : S ≤ g3) (hg : S ≤ g) (j : Nat) : wr.cell? ⟨q, j, none⟩ = w.cell? ⟨q, j, none⟩ := by
  have := h.size
  rw [hO.other (by omega) (by omega)]
  exact World.cell?_of_block (w := w) (a := ⟨q, j, none⟩) (h.kept q hw (by omega) (by omega) (by omega))

/-- Of what was there nothing has turned but three lists. -/
structure But (w w' : World) (g1 g2 g3 : Nat) : Prop where
  os : w'.os = w.os
  tape : w'.tape = w.tape
  output : w'.output = w.output
  size : w.heap.size ≤ w'.heap.size
  kept : ∀ k, k < w.heap.size → k ≠ g1 → k ≠ g2 → k ≠ g3 → w'.heap[k]? = w.heap[k]?

theorem Sb.but {w W : World} {b0 g1 g2 g3 : Nat} {bx bo : Array Value} (h : Sb w W b0 g1 g2 g3 bx bo) : But w W g1 g2 g3 := ⟨h.os, h.tape, h.output, by have := h.size; omega, h.kept⟩

set_option maxRecDepth 100000 in
set_option maxHeartbeats 4000000 in
theorem still_any (w : World) (kd x y : Int) (v1 v2 v3 : Value) (S n1 n2 n3 g1 g2 g3 : Nat) (z1 z2 z3 : List Int) (h1 : n1 ≤ 8796093021952) (h2 : n2 ≤ 8796093021952) (h3 : n3 ≤ 8796093021952)
    (s1 : Src w v1 2 n1 z1) (s2 : Src w v2 2 n2 z2) (s3 : Src w v3 3 n3 z3)
    (hS : ∀ v ∈ [v1, v2, v3], ∀ a n c, v = .slice (some a) n c → 0 < n → a.block < S) (S1 : S ≤ g1) (S2 : S ≤ g2) (S3 : S ≤ g3)
    (e1 : w.heap[g1]? = some (.cells (ivs z1 ++ List.replicate 6 (Value.int .i64 0)).toArray 35 (0, 0)))
    (e2 : w.heap[g2]? = some (.cells (ivs z2 ++ List.replicate 6 (Value.int .i64 0)).toArray 54 (0, 0)))
    (e3 : w.heap[g3]? = some (.cells (ivs z3 ++ List.replicate 9 (Value.int .i64 0)).toArray 46 (0, 0))) :
    Calls Tryz.prog 55 #[.agg #[.slice (some ⟨g1, 0, none⟩) (n1 + 3) (n1 + 3), .slice (some ⟨g2, 0, none⟩) (n2 + 3) (n2 + 3), .slice (some ⟨g3, 0, none⟩) (n3 + 3) (n3 + 3)], opV kd v1 v2 v3 x y] w fun e w' => e = .returned (.bool true) ∧ But w w' g1 g2 g3 := by
  have HS1 := hid s1
  have HS2 := hid s2
  have HS3 := hid s3
  have HE1 := hid e1
  have HE2 := hid e2
  have HE3 := hid e3
  have HQ := hid hS
  have ne12 : g1 ≠ g2 := by rintro rfl; rw [e1] at e2; simp at e2
  have ne13 : g1 ≠ g3 := by rintro rfl; rw [e1] at e3; simp at e3
  have ne23 : g2 ≠ g3 := by rintro rfl; rw [e2] at e3; simp at e3
  clear s1 s2 s3 e1 e2 e3 hS
  unfold opV
  obtain ⟨p1, c1, rfl⟩ : ∃ p c, v1 = .slice p n1 c := by obtain ⟨_, p, c, e, _⟩ := HS1.out; exact ⟨p, c, e⟩
  obtain ⟨p2, c2, rfl⟩ : ∃ p c, v2 = .slice p n2 c := by obtain ⟨_, p, c, e, _⟩ := HS2.out; exact ⟨p, c, e⟩
  obtain ⟨p3, c3, rfl⟩ : ∃ p c, v3 = .slice p n3 c := by obtain ⟨_, p, c, e, _⟩ := HS3.out; exact ⟨p, c, e⟩
  go_enter Tryz.func55, Tryz.ntmps55
  go_wp2
  obtain ⟨W, hW⟩ : ∃ W : World, W = (w.alloc (.cells #[.slice (some ⟨g1, 0, none⟩) (n1 + 3) (n1 + 3), .slice (some ⟨g2, 0, none⟩) (n2 + 3) (n2 + 3), .slice (some ⟨g3, 0, none⟩) (n3 + 3) (n3 + 3)] 80)).alloc (.cells #[.int .i64 kd, .slice p1 n1 c1, .slice p2 n2 c2, .slice p3 n3 c3, .int .i64 x, .int .i64 y] 62) := ⟨_, rfl⟩
  rw [← hW]
  obtain ⟨b0, hb0⟩ : ∃ b0, b0 = w.heap.size := ⟨_, rfl⟩
  have SB1 : Hid (Sb w W b0 g1 g2 g3 #[.slice (some ⟨g1, 0, none⟩) (n1 + 3) (n1 + 3), .slice (some ⟨g2, 0, none⟩) (n2 + 3) (n2 + 3), .slice (some ⟨g3, 0, none⟩) (n3 + 3) (n3 + 3)] #[.int .i64 kd, .slice p1 n1 c1, .slice p2 n2 c2, .slice p3 n3 c3, .int .i64 x, .int .i64 y]) := by
    subst hW
    refine hid ⟨?_, ?_, hb0, rfl, rfl, rfl, by simp, fun k hk _ _ _ => ?_⟩
    · rw [hb0, Below.heap_alloc _ _ _ (by rw [size_new]; omega)]; exact heap_new _ _
    · rw [hb0, ← size_new w]; exact heap_new _ _
    · rw [Below.heap_alloc _ _ _ (by rw [size_new]; omega), Below.heap_alloc _ _ _ hk]
  have HGW : Hid (∀ k, k < w.heap.size → W.heap[k]? = w.heap[k]?) := by subst hW; exact hid fun k hk => by rw [Below.heap_alloc _ _ _ (by rw [size_new]; omega), Below.heap_alloc _ _ _ hk]
  have l1 : g1 < b0 := by rw [hb0]; exact heap_lt HE1.out
  have l2 : g2 < b0 := by rw [hb0]; exact heap_lt HE2.out
  have l3 : g3 < b0 := by rw [hb0]; exact heap_lt HE3.out
  have F1 : Hid (W.heap[g1]? = some (.cells (ivs z1 ++ List.replicate 6 (Value.int .i64 0)).toArray 35 (0, 0))) := hid ((HGW.out g1 (by omega)).trans HE1.out)
  have F2 : Hid (W.heap[g2]? = some (.cells (ivs z2 ++ List.replicate 6 (Value.int .i64 0)).toArray 54 (0, 0))) := hid ((HGW.out g2 (by omega)).trans HE2.out)
  have F3 : Hid (W.heap[g3]? = some (.cells (ivs z3 ++ List.replicate 9 (Value.int .i64 0)).toArray 46 (0, 0))) := hid ((HGW.out g3 (by omega)).trans HE3.out)
  rw [← hb0]
  clear hb0 hW HGW HE1 HE2 HE3
  go_loopw [5, 6] (fun ok i wr => ∃ k : Nat, k ≤ n1 + 3 ∧ i = .int .i64 k ∧ ok = .bool true ∧ Hid (Ov W wr g1 35 (ivs z1 ++ List.replicate 6 (Value.int .i64 0)) [.int .i64 77, .int .i64 (-77)] k)) (fun _ i _ => n1 + 3 - (intOf i).toNat)
  case atStart => exact ⟨0, Nat.zero_le _, rfl, rfl, hid ⟨by rw [over_zero]; exact F1.out, World.grownBy.refl _ _⟩⟩
  case round =>
    obtain ⟨k, hk, rfl, rfl, hO⟩ := hrel
    have bx : wr.cell? ⟨b0, 0, none⟩ = some (.slice (some ⟨g1, 0, none⟩) (n1 + 3) (n1 + 3)) := SB1.out.x hO.out l1 0
    have bo : wr.cell? ⟨b0 + 1, 1, none⟩ = some (.slice p1 n1 c1) := SB1.out.o hO.out l1 1
    by_cases hlt : k < n1 + 3
    · have hlen := HS1.out.1
      have ca : wr.cell? ⟨g1, k * 2, none⟩ = some (.int .i64 (z1.getD (k * 2) 0)) := by rw [hO.out.cell (k * 2) (by simp)]; exact lent_get _ _ _ (by omega)
      have fa : wr.frozen? ⟨g1, k * 2, none⟩ = false := heap_free hO.out.heap _
      have cb : wr.cell? ⟨g1, k * 2 + 1, none⟩ = some (.int .i64 (z1.getD (k * 2 + 1) 0)) := by rw [hO.out.cell (k * 2 + 1) (by simp)]; exact lent_get _ _ _ (by omega)
      have fb : wr.frozen? ⟨g1, k * 2 + 1, none⟩ = false := heap_free hO.out.heap _
      have i1 : (k : Int) < n1 + 3 := by omega
      by_cases hin : k < n1
      · obtain ⟨q, qo, hp, hq, hc⟩ := HS1.out.at (by omega) (by omega)
        have qS : q < S := HQ.out (.slice p1 n1 c1) (by simp) ⟨q, qo, none⟩ n1 c1 (by rw [hp]) (by omega)
        have ha : wr.cell? ⟨q, qo + k * 2, none⟩ = some (.int .i64 (z1.getD (k * 2) 0)) := by rw [SB1.out.q hO.out qS hq S1 S2 S3 S1]; exact hc (k * 2) (by omega)
        have hb : wr.cell? ⟨q, qo + k * 2 + 1, none⟩ = some (.int .i64 (z1.getD (k * 2 + 1) 0)) := by rw [SB1.out.q hO.out qS hq S1 S2 S3 S1]; exact hc (k * 2 + 1) (by omega)
        subst hp
        clear hc
        generalize z1.getD (k * 2) 0 = va at *
        generalize z1.getD (k * 2 + 1) 0 = vb at *
        have E := eq33 va vb
        have ha' := new_cell ha
        have hb' := new_cell hb
        have i0 : (k : Int) < n1 := by omega
        have ca' := new_cell ca
        have fa' := new_free (heap_lt hO.out.heap) fa
        have cb' := new_cell cb
        have fb' := new_free (heap_lt hO.out.heap) fb
        have bx' := new_cell bx
        have bo' := new_cell bo
        go_wp2
        go_region
        all_goals go_wp2
        all_goals exact ⟨⟨k + 1, by omega, by go_num, rfl, hid ((hO.out.alloc _).two (by simp [ivs]; omega)).drew⟩, by simp [intOf]; omega⟩
      · have i0 : ¬ (k : Int) < n1 := by omega
        have zz : ∀ j, n1 * 2 ≤ j → z1.getD j 0 = 0 := fun j hj => by simp [List.getD, List.getElem?_eq_none (show z1.length ≤ j by omega)]
        rw [zz _ (by omega)] at ca cb
        clear zz
        have E := eq33 0 0
        have ca' := new_cell ca
        have fa' := new_free (heap_lt hO.out.heap) fa
        have cb' := new_cell cb
        have fb' := new_free (heap_lt hO.out.heap) fb
        have bx' := new_cell bx
        have bo' := new_cell bo
        go_wp2
        go_region
        all_goals go_wp2
        all_goals exact ⟨⟨k + 1, by omega, by go_num, rfl, hid ((hO.out.alloc _).two (by simp [ivs]; omega)).drew⟩, by simp [intOf]; omega⟩
    · have hkn : k = n1 + 3 := by omega
      subst hkn
      clear hlt hk
      have i1 : ¬ ((n1 + 3 : Nat) : Int) < n1 + 3 := by omega
      obtain ⟨W2, rfl⟩ : ∃ W2, W2 = wr := ⟨wr, rfl⟩
      have SB2 := hid (SB1.out.step hO.out.grown (by simp) l1)
      have F2 := hid ((hO.out.grown.block g2 (by have := SB1.out.size; have := SB1.out.b0w; omega) (by simp; omega)).trans F2.out)
      have F3 := hid ((hO.out.grown.block g3 (by have := SB1.out.size; have := SB1.out.b0w; omega) (by simp; omega)).trans F3.out)
      clear SB1 hO
      go_wp2
      go_loopw [5, 8] (fun ok i wr => ∃ k : Nat, k ≤ n2 + 3 ∧ i = .int .i64 k ∧ ok = .bool true ∧ Hid (Ov W2 wr g2 54 (ivs z2 ++ List.replicate 6 (Value.int .i64 0)) [.int .i64 (-5), .int .i64 0] k)) (fun _ i _ => n2 + 3 - (intOf i).toNat)
      case atStart => exact ⟨0, Nat.zero_le _, rfl, rfl, hid ⟨by rw [over_zero]; exact F2.out, World.grownBy.refl _ _⟩⟩
      case round =>
        obtain ⟨k, hk, rfl, rfl, hO⟩ := hrel
        have bx : wr.cell? ⟨b0, 1, none⟩ = some (.slice (some ⟨g2, 0, none⟩) (n2 + 3) (n2 + 3)) := SB2.out.x hO.out l2 1
        have bo : wr.cell? ⟨b0 + 1, 2, none⟩ = some (.slice p2 n2 c2) := SB2.out.o hO.out l2 2
        by_cases hlt : k < n2 + 3
        · have hlen := HS2.out.1
          have ca : wr.cell? ⟨g2, k * 2, none⟩ = some (.int .i64 (z2.getD (k * 2) 0)) := by rw [hO.out.cell (k * 2) (by simp)]; exact lent_get _ _ _ (by omega)
          have fa : wr.frozen? ⟨g2, k * 2, none⟩ = false := heap_free hO.out.heap _
          have cb : wr.cell? ⟨g2, k * 2 + 1, none⟩ = some (.int .i64 (z2.getD (k * 2 + 1) 0)) := by rw [hO.out.cell (k * 2 + 1) (by simp)]; exact lent_get _ _ _ (by omega)
          have fb : wr.frozen? ⟨g2, k * 2 + 1, none⟩ = false := heap_free hO.out.heap _
          have i1 : (k : Int) < n2 + 3 := by omega
          by_cases hin : k < n2
          · obtain ⟨q, qo, hp, hq, hc⟩ := HS2.out.at (by omega) (by omega)
            have qS : q < S := HQ.out (.slice p2 n2 c2) (by simp) ⟨q, qo, none⟩ n2 c2 (by rw [hp]) (by omega)
            have ha : wr.cell? ⟨q, qo + k * 2, none⟩ = some (.int .i64 (z2.getD (k * 2) 0)) := by rw [SB2.out.q hO.out qS hq S1 S2 S3 S2]; exact hc (k * 2) (by omega)
            have hb : wr.cell? ⟨q, qo + k * 2 + 1, none⟩ = some (.int .i64 (z2.getD (k * 2 + 1) 0)) := by rw [SB2.out.q hO.out qS hq S1 S2 S3 S2]; exact hc (k * 2 + 1) (by omega)
            subst hp
            clear hc
            generalize z2.getD (k * 2) 0 = va at *
            generalize z2.getD (k * 2 + 1) 0 = vb at *
            have E := eq83 va vb
            have ha' := new_cell ha
            have hb' := new_cell hb
            have i0 : (k : Int) < n2 := by omega
            have ca' := new_cell ca
            have fa' := new_free (heap_lt hO.out.heap) fa
            have cb' := new_cell cb
            have fb' := new_free (heap_lt hO.out.heap) fb
            have bx' := new_cell bx
            have bo' := new_cell bo
            go_wp2
            go_region
            all_goals go_wp2
            all_goals exact ⟨⟨k + 1, by omega, by go_num, rfl, hid ((hO.out.alloc _).two (by simp [ivs]; omega)).drew⟩, by simp [intOf]; omega⟩
          · have i0 : ¬ (k : Int) < n2 := by omega
            have zz : ∀ j, n2 * 2 ≤ j → z2.getD j 0 = 0 := fun j hj => by simp [List.getD, List.getElem?_eq_none (show z2.length ≤ j by omega)]
            rw [zz _ (by omega)] at ca cb
            clear zz
            have E := eq83 0 0
            have ca' := new_cell ca
            have fa' := new_free (heap_lt hO.out.heap) fa
            have cb' := new_cell cb
            have fb' := new_free (heap_lt hO.out.heap) fb
            have bx' := new_cell bx
            have bo' := new_cell bo
            go_wp2
            go_region
            all_goals go_wp2
            all_goals exact ⟨⟨k + 1, by omega, by go_num, rfl, hid ((hO.out.alloc _).two (by simp [ivs]; omega)).drew⟩, by simp [intOf]; omega⟩
        · have hkn : k = n2 + 3 := by omega
          subst hkn
          clear hlt hk
          have i1 : ¬ ((n2 + 3 : Nat) : Int) < n2 + 3 := by omega
          obtain ⟨W3, rfl⟩ : ∃ W3, W3 = wr := ⟨wr, rfl⟩
          have SB3 := hid (SB2.out.step hO.out.grown (by simp) l2)
          have F3 := hid ((hO.out.grown.block g3 (by have := SB2.out.size; have := SB2.out.b0w; omega) (by simp; omega)).trans F3.out)
          clear SB2 hO
          go_wp2
          go_loopw [5, 10] (fun ok i wr => ∃ k : Nat, k ≤ n3 + 3 ∧ i = .int .i64 k ∧ ok = .bool true ∧ Hid (Ov W3 wr g3 46 (ivs z3 ++ List.replicate 9 (Value.int .i64 0)) [.int .i64 (-5), .int .i64 0, .int .i64 0] k)) (fun _ i _ => n3 + 3 - (intOf i).toNat)
          case atStart => exact ⟨0, Nat.zero_le _, rfl, rfl, hid ⟨by rw [over_zero]; exact F3.out, World.grownBy.refl _ _⟩⟩
          case round =>
            obtain ⟨k, hk, rfl, rfl, hO⟩ := hrel
            have bx : wr.cell? ⟨b0, 2, none⟩ = some (.slice (some ⟨g3, 0, none⟩) (n3 + 3) (n3 + 3)) := SB3.out.x hO.out l3 2
            have bo : wr.cell? ⟨b0 + 1, 3, none⟩ = some (.slice p3 n3 c3) := SB3.out.o hO.out l3 3
            by_cases hlt : k < n3 + 3
            · have hlen := HS3.out.1
              have ca : wr.cell? ⟨g3, k * 3, none⟩ = some (.int .i64 (z3.getD (k * 3) 0)) := by rw [hO.out.cell (k * 3) (by simp)]; exact lent_get _ _ _ (by omega)
              have fa : wr.frozen? ⟨g3, k * 3, none⟩ = false := heap_free hO.out.heap _
              have cb : wr.cell? ⟨g3, k * 3 + 1, none⟩ = some (.int .i64 (z3.getD (k * 3 + 1) 0)) := by rw [hO.out.cell (k * 3 + 1) (by simp)]; exact lent_get _ _ _ (by omega)
              have fb : wr.frozen? ⟨g3, k * 3 + 1, none⟩ = false := heap_free hO.out.heap _
              have cd : wr.cell? ⟨g3, k * 3 + 2, none⟩ = some (.int .i64 (z3.getD (k * 3 + 2) 0)) := by rw [hO.out.cell (k * 3 + 2) (by simp)]; exact lent_get _ _ _ (by omega)
              have fd : wr.frozen? ⟨g3, k * 3 + 2, none⟩ = false := heap_free hO.out.heap _
              have i1 : (k : Int) < n3 + 3 := by omega
              by_cases hin : k < n3
              · obtain ⟨q, qo, hp, hq, hc⟩ := HS3.out.at (by omega) (by omega)
                have qS : q < S := HQ.out (.slice p3 n3 c3) (by simp) ⟨q, qo, none⟩ n3 c3 (by rw [hp]) (by omega)
                have ha : wr.cell? ⟨q, qo + k * 3, none⟩ = some (.int .i64 (z3.getD (k * 3) 0)) := by rw [SB3.out.q hO.out qS hq S1 S2 S3 S3]; exact hc (k * 3) (by omega)
                have hb : wr.cell? ⟨q, qo + k * 3 + 1, none⟩ = some (.int .i64 (z3.getD (k * 3 + 1) 0)) := by rw [SB3.out.q hO.out qS hq S1 S2 S3 S3]; exact hc (k * 3 + 1) (by omega)
                have hd : wr.cell? ⟨q, qo + k * 3 + 2, none⟩ = some (.int .i64 (z3.getD (k * 3 + 2) 0)) := by rw [SB3.out.q hO.out qS hq S1 S2 S3 S3]; exact hc (k * 3 + 2) (by omega)
                subst hp
                clear hc
                generalize z3.getD (k * 3) 0 = va at *
                generalize z3.getD (k * 3 + 1) 0 = vb at *
                generalize z3.getD (k * 3 + 2) 0 = vd at *
                have E := eq66 va vb vd
                have ha' := new_cell ha
                have hb' := new_cell hb
                have hd' := new_cell hd
                have i0 : (k : Int) < n3 := by omega
                have ca' := new_cell ca
                have fa' := new_free (heap_lt hO.out.heap) fa
                have cb' := new_cell cb
                have fb' := new_free (heap_lt hO.out.heap) fb
                have cd' := new_cell cd
                have fd' := new_free (heap_lt hO.out.heap) fd
                have bx' := new_cell bx
                have bo' := new_cell bo
                go_wp2
                go_region
                all_goals go_wp2
                all_goals exact ⟨⟨k + 1, by omega, by go_num, rfl, hid ((hO.out.alloc _).three (by simp [ivs]; omega)).drew⟩, by simp [intOf]; omega⟩
              · have i0 : ¬ (k : Int) < n3 := by omega
                have zz : ∀ j, n3 * 3 ≤ j → z3.getD j 0 = 0 := fun j hj => by simp [List.getD, List.getElem?_eq_none (show z3.length ≤ j by omega)]
                rw [zz _ (by omega)] at ca cb cd
                clear zz
                have E := eq66 0 0 0
                have ca' := new_cell ca
                have fa' := new_free (heap_lt hO.out.heap) fa
                have cb' := new_cell cb
                have fb' := new_free (heap_lt hO.out.heap) fb
                have cd' := new_cell cd
                have fd' := new_free (heap_lt hO.out.heap) fd
                have bx' := new_cell bx
                have bo' := new_cell bo
                go_wp2
                go_region
                all_goals go_wp2
                all_goals exact ⟨⟨k + 1, by omega, by go_num, rfl, hid ((hO.out.alloc _).three (by simp [ivs]; omega)).drew⟩, by simp [intOf]; omega⟩
            · have hkn : k = n3 + 3 := by omega
              subst hkn
              clear hlt hk
              have i1 : ¬ ((n3 + 3 : Nat) : Int) < n3 + 3 := by omega
              obtain ⟨W4, rfl⟩ : ∃ W4, W4 = wr := ⟨wr, rfl⟩
              have SB4 := hid (SB3.out.step hO.out.grown (by simp) l3)
              clear SB3 hO
              go_wp2
              go_ret
              exact ⟨rfl, SB4.out.but⟩
end Go.Proofs.YtdbebbbceeopaaaGreat
