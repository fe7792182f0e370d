import Derived.Test.YtdbebbbceeopaaaGreatX
import Derived.Laws.CopyOwn
import Derived.Deep.RegionHeld3
import Derived.Deep.DeepCutAuto
set_option linter.unusedSimpArgs false
namespace Go.Proofs.YtdbebbbceeopaaaGreat
open Go.RowKit

def ivs (zs : List Int) : List Value := zs.map fun z => .int .i64 z

/-- A list that came in: its cells, as whole numbers. -/
def Src (w : World) (v : Value) (sz n : Nat) (zs : List Int) : Prop :=
  zs.length = n * sz ∧ ∃ p c, v = .slice p n c ∧ (p = none → n = 0) ∧ ∀ a, p = some a → ∀ j z, zs[j]? = some z → w.cell? (a.add j) = some (.int .i64 z)

theorem Src.below {w w' : World} {v : Value} {sz n : Nat} {zs : List Int} (h : Src w v sz n zs) (hb : Below w.heap.size w w') : Src w' v sz n zs := by
  obtain ⟨h1, p, c, h2, h3, h4⟩ := h
  refine ⟨h1, p, c, h2, h3, fun a ha j z hj => ?_⟩
  have h6 := h4 a ha j z hj
  rw [hb.cell (World.block_lt_of_cell? w _ h6)]
  exact h6

theorem ivs_get {zs : List Int} {j : Nat} {u : Value} (h : (ivs zs)[j]? = some u) : ∃ z, zs[j]? = some z ∧ u = .int .i64 z := by
  unfold ivs at h
  rw [List.getElem?_map] at h
  obtain ⟨z, h1, h2⟩ := Option.map_eq_some_iff.1 h
  exact ⟨z, h1, h2.symm⟩

theorem ivs_one {zs : List Int} : ∀ u ∈ ivs zs, u.oneCell' = true := by
  intro u hu
  obtain ⟨z, _, rfl⟩ := List.mem_map.1 hu
  rfl

theorem run_copy_wide {P : Program} (w : World) (dT sT ty elem : TypeId) (sz g dLen dCap : Nat) (p : Option Addr) (sLen sCap : Nat) (cur : Array Value) (t : TypeId) (cs : List Value)
    (hu : P.underlying dT = some (.slice elem)) (hs : (P.info? elem).map (·.size) = some sz)
    (hg : w.heap[g]? = some (.cells cur t (0, 0))) (hle : sLen ≤ dLen) (hn : cs.length = sLen * sz) (hp : p = none → sLen = 0)
    (hsrc : ∀ a, p = some a → ∀ j v, cs[j]? = some v → w.cell? (a.add j) = some v) (hfit : cs.length ≤ cur.size) (h1 : ∀ v ∈ cs, v.oneCell' = true) :
    (Builtin.copy_ #[dT, sT] ty #[.slice (some ⟨g, 0, none⟩) dLen dCap, .slice p sLen sCap]).run P w =
      .ok (goInt sLen) (w.setRow g (cs ++ cur.toList.drop cs.length).toArray) := by
  have hst := run_storeCells_at P g 0 t cs 0 cur w hg (by simpa using hfit) h1
  simp only [Nat.zero_add, List.take_zero, List.nil_append] at hst
  have hm : Nat.min sLen dLen = sLen := Nat.min_eq_left hle
  cases hq : P.info? elem with
  | none => simp [hq] at hs
  | some i =>
    have hi : i.size = sz := by simpa [hq] using hs
    cases p with
    | none =>
      have h0 := hp rfl
      subst h0
      have hc : cs = [] := List.eq_nil_of_length_eq_zero (by simpa using hn)
      subst hc
      simp [Builtin.copy_, run_underlying hu, Builtin.lenOf, Builtin.firstCells, sizeOf, typeInfo, hq, hi, storeCells]
      rw [setRow_self w g cur t (0, 0) hg]
    | some a =>
      have hl := run_loadCells_list (P := P) w a cs (hsrc a rfl)
      simp [Builtin.copy_, run_underlying hu, Builtin.lenOf, Builtin.firstCells, sizeOf, typeInfo, hq, hi, hm, ← hn, hl, hst]

theorem wpList_copy_wide {P : Program} {w : World} {ops : Array Oper} {rest : List Oper} {o : Oper} {a : Act} {Q : Exit → Act → World → Prop} (hgd : o.guard = none) (d s : Operand) (dT sT : TypeId)
    (ho : o.op = .call { callee := .builtin .copy, args := #[d, s], argTypes := #[dT, sT] }) (elem : TypeId) (sz : Nat) (hu : P.underlying dT = some (.slice elem)) (hsz : (P.info? elem).map (·.size) = some sz)
    (g dLen dCap n : Nat) (v : Value) (hd : a.eval d = .slice (some ⟨g, 0, none⟩) dLen dCap) (hs : a.eval s = v)
    (cur : List Value) (t : TypeId) (hg : w.heap[g]? = some (.cells cur.toArray t (0, 0))) (zs : List Int) (hv : Src w v sz n zs) (hle : n ≤ dLen) (hfit : zs.length ≤ cur.length)
    (h : ∀ w', Hid (w'.heap[g]? = some (.cells (ivs zs ++ cur.drop zs.length).toArray t (0, 0))) → Hid (w.grownBy w' (some g)) → wpList P ops Q rest (a.put o.dst (goInt n)) w') : wpList P ops Q (o :: rest) a w := by
  obtain ⟨hz, p, c, rfl, hp, ha⟩ := hv
  have hlen : (ivs zs).length = zs.length := by simp [ivs]
  refine wpList_plain hgd fun K hK => ?_
  have hrun := run_copy_wide (P := P) w dT sT o.type elem sz g dLen dCap p n c cur.toArray t (ivs zs) hu hsz hg hle (by rw [hlen]; exact hz) hp ?_ (by rw [hlen]; simpa using hfit) ivs_one
  · unfold Oper.wp
    simp [execOp, ho, resolve, invoke, builtin, hd, hs, hrun, Result.andThen]
    refine hK _ _ (h _ (hid ?_) (hid ?_))
    · rw [hlen]; simpa using setRow_heap w g _ _ t _ hg
    · exact ⟨rfl, rfl, rfl, by simp [World.setRow], fun k hk hne => setRow_other w g k _ (fun e => hne (by rw [e]))⟩
  · intro a ea j u hj
    obtain ⟨z, h1, rfl⟩ := ivs_get hj
    exact ha a ea j z h1

theorem made_zeros (z : Array Value) (hz : z = #[.int .i64 0, .int .i64 0] ∨ z = #[.int .i64 0, .int .i64 0, .int .i64 0]) (n : Nat) : madeCells z n = (List.replicate n (Value.int .i64 0)).toArray := by
  apply Array.ext'
  apply List.ext_getElem?
  intro j
  rcases hz with rfl | rfl
  · simp [madeCells, List.getElem?_replicate, Array.getElem?_range]
    by_cases hj : j < n
    · have h2 : j % 2 < 2 := Nat.mod_lt _ (by omega)
      rcases (by omega : j % 2 = 0 ∨ j % 2 = 1) with h | h <;> simp [hj, h]
    · simp [hj]
  · simp [madeCells, List.getElem?_replicate, Array.getElem?_range]
    by_cases hj : j < n
    · have h2 : j % 3 < 3 := Nat.mod_lt _ (by omega)
      rcases (by omega : j % 3 = 0 ∨ j % 3 = 1 ∨ j % 3 = 2) with h | h | h <;> simp [hj, h]
    · simp [hj]

theorem Tryz.info54 : (Tryz.prog.info? 54).map (fun i => (i.zero, i.size, i.bytes)) = some (some (.agg #[.int .i64 0, .int .i64 0]), 2, 16) := by kernel_rfl
theorem Tryz.info46 : (Tryz.prog.info? 46).map (fun i => (i.zero, i.size, i.bytes)) = some (some (.agg #[.int .i64 0, .int .i64 0, .int .i64 0]), 3, 24) := by kernel_rfl

theorem make_any (T e sz bytes : Nat) (z : Value) (hu : Tryz.prog.underlying T = some (.slice e)) (hi : (Tryz.prog.info? e).map (fun i => (i.zero, i.size, i.bytes)) = some (some z, sz, bytes))
    (hz : z.cells = #[.int .i64 0, .int .i64 0] ∨ z.cells = #[.int .i64 0, .int .i64 0, .int .i64 0]) (n : Nat) (hb : bytes ≤ 24) (hn : n ≤ 2000000) (W : World) :
    (Instr.makeSlice T (.int .i64 ((n : Int) + 3)) (.int .i64 ((n : Int) + 3))).run Tryz.prog W = .ok (.slice (some ⟨W.heap.size, 0, none⟩) (n + 3) (n + 3)) (W.alloc (.cells (List.replicate ((n + 3) * sz) (Value.int .i64 0)).toArray e)) := by
  obtain ⟨i0, hi0, hz0, hz1, hz2⟩ := info_parts hi
  have hbb : (i0.bytes : Int) * ((n : Int) + 3) ≤ 281474976710656 := by
    rw [hz2]
    have : (bytes : Int) * ((n : Int) + 3) ≤ 24 * ((n : Int) + 3) := Int.mul_le_mul_of_nonneg_right (by omega) (by omega)
    omega
  have := run_make (P := Tryz.prog) W T e i0 z hu hi0 hz0 .i64 .i64 ((n : Int) + 3) ((n : Int) + 3) (by omega) (by omega) hbb (by omega)
  rw [this, hz1, made_zeros _ hz]
  have e3 : ((n : Int) + 3).toNat = n + 3 := by omega
  rw [e3]

/-- What lend has made: three lists with zeros, apart, and where they are kept. -/
def LentAt (W0 wx : World) (n1 n2 n3 X g1 g2 g3 : Nat) (l1 l2 l3 : List Value) : Prop :=
  wx.heap[X]? = some (.cells #[.slice (some ⟨g1, 0, none⟩) (n1 + 3) (n1 + 3), .slice (some ⟨g2, 0, none⟩) (n2 + 3) (n2 + 3), .slice (some ⟨g3, 0, none⟩) (n3 + 3) (n3 + 3)] 80 (0, 0)) ∧
  wx.heap[g1]? = some (.cells l1.toArray 35 (0, 0)) ∧ wx.heap[g2]? = some (.cells l2.toArray 54 (0, 0)) ∧ wx.heap[g3]? = some (.cells l3.toArray 46 (0, 0)) ∧
  Below W0.heap.size W0 wx ∧ W0.heap.size ≤ X ∧ W0.heap.size ≤ g1 ∧ W0.heap.size ≤ g2 ∧ W0.heap.size ≤ g3

theorem LentAt.old {W0 wx : World} {n1 n2 n3 X g1 g2 g3 : Nat} {l1 l2 l3 : List Value} (h : LentAt W0 wx n1 n2 n3 X g1 g2 g3 l1 l2 l3) : g1 ≠ X ∧ g2 ≠ X ∧ g3 ≠ X ∧ g1 ≠ g2 ∧ g1 ≠ g3 ∧ g2 ≠ g3 := by
  obtain ⟨e0, e1, e2, e3, _⟩ := h
  refine ⟨?_, ?_, ?_, ?_, ?_, ?_⟩
  · rintro rfl; rw [e0] at e1; simp at e1
  · rintro rfl; rw [e0] at e2; simp at e2
  · rintro rfl; rw [e0] at e3; simp at e3
  · rintro rfl; rw [e1] at e2; simp at e2
  · rintro rfl; rw [e1] at e3; simp at e3
  · rintro rfl; rw [e2] at e3; simp at e3

theorem heap_lt {w : World} {g : Nat} {o : Obj} (h : w.heap[g]? = some o) : g < w.heap.size := (Array.getElem?_eq_some_iff.1 h).1

theorem kept_at {w w' : World} {g k : Nat} {o : Obj} (hg : w.grownBy w' (some g)) (h : w.heap[k]? = some o) (hk : k ≠ g) : w'.heap[k]? = some o :=
  (hg.block k (heap_lt h) (by simpa using hk)).trans h

theorem LentAt.one {W0 wx w' : World} {n1 n2 n3 X g1 g2 g3 : Nat} {l1 l2 l3 l : List Value} (h : LentAt W0 wx n1 n2 n3 X g1 g2 g3 l1 l2 l3) (hg : wx.grownBy w' (some g1)) (hl : w'.heap[g1]? = some (.cells l.toArray 35 (0, 0))) : LentAt W0 w' n1 n2 n3 X g1 g2 g3 l l2 l3 := by
  obtain ⟨a1, a2, a3, a4, a5, a6⟩ := h.old
  obtain ⟨e0, e1, e2, e3, hb, k0, k1, k2, k3⟩ := h
  exact ⟨kept_at hg e0 a1.symm, hl, kept_at hg e2 a4.symm, kept_at hg e3 a5.symm, hb.grown hg hb.size (by rintro k e; cases e; exact k1), k0, k1, k2, k3⟩

theorem LentAt.two {W0 wx w' : World} {n1 n2 n3 X g1 g2 g3 : Nat} {l1 l2 l3 l : List Value} (h : LentAt W0 wx n1 n2 n3 X g1 g2 g3 l1 l2 l3) (hg : wx.grownBy w' (some g2)) (hl : w'.heap[g2]? = some (.cells l.toArray 54 (0, 0))) : LentAt W0 w' n1 n2 n3 X g1 g2 g3 l1 l l3 := by
  obtain ⟨a1, a2, a3, a4, a5, a6⟩ := h.old
  obtain ⟨e0, e1, e2, e3, hb, k0, k1, k2, k3⟩ := h
  exact ⟨kept_at hg e0 a2.symm, kept_at hg e1 a4, hl, kept_at hg e3 a6.symm, hb.grown hg hb.size (by rintro k e; cases e; exact k2), k0, k1, k2, k3⟩

theorem LentAt.three {W0 wx w' : World} {n1 n2 n3 X g1 g2 g3 : Nat} {l1 l2 l3 l : List Value} (h : LentAt W0 wx n1 n2 n3 X g1 g2 g3 l1 l2 l3) (hg : wx.grownBy w' (some g3)) (hl : w'.heap[g3]? = some (.cells l.toArray 46 (0, 0))) : LentAt W0 w' n1 n2 n3 X g1 g2 g3 l1 l2 l := by
  obtain ⟨a1, a2, a3, a4, a5, a6⟩ := h.old
  obtain ⟨e0, e1, e2, e3, hb, k0, k1, k2, k3⟩ := h
  exact ⟨kept_at hg e0 a3.symm, kept_at hg e1 a5, kept_at hg e2 a6, hl, hb.grown hg hb.size (by rintro k e; cases e; exact k3), k0, k1, k2, k3⟩

theorem tail_zeros {zs : List Int} {n sz : Nat} {Z : List Value} (hz : zs.length = n * sz) (hZ : Z = List.replicate ((n + 3) * sz) (Value.int .i64 0)) : ivs zs ++ Z.drop zs.length = ivs zs ++ List.replicate (3 * sz) (Value.int .i64 0) := by
  subst hZ
  rw [List.drop_replicate, hz, Nat.add_mul, Nat.add_sub_cancel_left]

theorem zeros_fit {zs : List Int} {n sz : Nat} {Z : List Value} (hz : zs.length = n * sz) (hZ : Z = List.replicate ((n + 3) * sz) (Value.int .i64 0)) : zs.length ≤ Z.length := by
  subst hZ
  rw [hz, List.length_replicate]
  exact Nat.mul_le_mul_right _ (by omega)

theorem heap_new (w : World) (o : Obj) : (w.alloc o).heap[w.heap.size]? = some o := by
  show (w.heap.push o)[_]? = _
  simp

theorem size_new (w : World) (o : Obj) : (w.alloc o).heap.size = w.heap.size + 1 := by
  show (w.heap.push o).size = _
  simp

theorem lent_of {W0 wx : World} {n1 n2 n3 X g1 g2 g3 : Nat} {l1 l2 l3 : List Value} (h0 : wx.heap[X]? = some (.cells #[.slice (some ⟨g1, 0, none⟩) (n1 + 3) (n1 + 3), .slice (some ⟨g2, 0, none⟩) (n2 + 3) (n2 + 3), .slice (some ⟨g3, 0, none⟩) (n3 + 3) (n3 + 3)] 80 (0, 0)))
    (h1 : wx.heap[g1]? = some (.cells l1.toArray 35 (0, 0))) (h2 : wx.heap[g2]? = some (.cells l2.toArray 54 (0, 0))) (h3 : wx.heap[g3]? = some (.cells l3.toArray 46 (0, 0)))
    (h4 : Below W0.heap.size W0 wx) (h5 : W0.heap.size ≤ X) (h6 : W0.heap.size ≤ g1) (h7 : W0.heap.size ≤ g2) (h8 : W0.heap.size ≤ g3) :
    ∃ X' g1 g2 g3, Value.pointer (some ⟨X, 0, none⟩) = .pointer (some ⟨X', 0, none⟩) ∧ Hid (LentAt W0 wx n1 n2 n3 X' g1 g2 g3 l1 l2 l3) :=
  ⟨X, g1, g2, g3, rfl, h0, h1, h2, h3, h4, h5, h6, h7, h8⟩

theorem heap_four (W0 : World) (o0 o1 o2 o3 : Obj) :
    ((((W0.alloc o0).alloc o1).alloc o2).alloc o3).drew.heap[W0.heap.size]? = some o0 ∧ ((((W0.alloc o0).alloc o1).alloc o2).alloc o3).drew.heap[W0.heap.size + 1]? = some o1 ∧
    ((((W0.alloc o0).alloc o1).alloc o2).alloc o3).drew.heap[W0.heap.size + 1 + 1]? = some o2 ∧ ((((W0.alloc o0).alloc o1).alloc o2).alloc o3).drew.heap[W0.heap.size + 1 + 1 + 1]? = some o3 ∧
    Below W0.heap.size W0 ((((W0.alloc o0).alloc o1).alloc o2).alloc o3).drew := by
  have e (W : World) : W.drew.heap = W.heap := rfl
  rw [e]
  have s1 := size_new W0 o0
  have s2 := size_new (W0.alloc o0) o1
  have s3 := size_new ((W0.alloc o0).alloc o1) o2
  refine ⟨?_, ?_, ?_, ?_, ?_⟩
  · rw [Below.heap_alloc _ _ _ (by omega), Below.heap_alloc _ _ _ (by omega), Below.heap_alloc _ _ _ (by omega)]
    exact heap_new _ _
  · rw [Below.heap_alloc _ _ _ (by omega), Below.heap_alloc _ _ _ (by omega), ← s1]
    exact heap_new _ _
  · rw [Below.heap_alloc _ _ _ (by omega), ← s1, ← s2]
    exact heap_new _ _
  · rw [← s1, ← s2, ← s3]
    exact heap_new _ _
  · exact (((((Below.refl _ _).alloc (Nat.le_refl _) _).alloc (by omega) _).alloc (by omega) _).alloc (by omega) _).drew

theorem heap_cell {w : World} {g : Nat} {cs : Array Value} {t : TypeId} (h : w.heap[g]? = some (.cells cs t (0, 0))) (j : Nat) : w.cell? ⟨g, j, none⟩ = cs[j]? := by
  simp [World.cell?, h]
theorem heap_free {w : World} {g : Nat} {cs : Array Value} {t : TypeId} (h : w.heap[g]? = some (.cells cs t (0, 0))) (j : Nat) : w.frozen? ⟨g, j, none⟩ = false := by
  simp [World.frozen?, h]

theorem wrap3 (n : Nat) (hn : n ≤ 2000000) : IntKind.i64.wrap ((n : Int) + 3) = (n : Int) + 3 := by rw [IntKind.wrap_i64]; omega

set_option maxRecDepth 100000 in
set_option maxHeartbeats 2000000 in
theorem lend_any (w : World) (kd x y : Int) (v1 v2 v3 : Value) (n1 n2 n3 : Nat) (z1 z2 z3 : List Int) (h1 : n1 ≤ 2000000) (h2 : n2 ≤ 2000000) (h3 : n3 ≤ 2000000)
    (s1 : Src w v1 2 n1 z1) (s2 : Src w v2 2 n2 z2) (s3 : Src w v3 3 n3 z3) :
    Calls Tryz.prog 45 #[opV kd v1 v2 v3 x y] w fun e w' => ∃ g1 g2 g3,
      e = .returned (.agg #[.slice (some ⟨g1, 0, none⟩) (n1 + 3) (n1 + 3), .slice (some ⟨g2, 0, none⟩) (n2 + 3) (n2 + 3), .slice (some ⟨g3, 0, none⟩) (n3 + 3) (n3 + 3)]) ∧
      w'.heap[g1]? = some (.cells (ivs z1 ++ List.replicate 6 (Value.int .i64 0)).toArray 35 (0, 0)) ∧
      w'.heap[g2]? = some (.cells (ivs z2 ++ List.replicate 6 (Value.int .i64 0)).toArray 54 (0, 0)) ∧
      w'.heap[g3]? = some (.cells (ivs z3 ++ List.replicate 9 (Value.int .i64 0)).toArray 46 (0, 0)) ∧
      Below w.heap.size w w' ∧ w.heap.size ≤ g1 ∧ w.heap.size ≤ g2 ∧ w.heap.size ≤ g3 := by
  have HS1 := hid s1
  have HS2 := hid s2
  have HS3 := hid s3
  obtain ⟨u1, p1, c1, rfl, t1⟩ := s1
  obtain ⟨u2, p2, c2, rfl, t2⟩ := s2
  obtain ⟨u3, p3, c3, rfl, t3⟩ := s3
  have U1 := hid u1
  have U2 := hid u2
  have U3 := hid u3
  clear u1 u2 u3 t1 t2 t3
  have j1 := wrap3 n1 h1
  have j2 := wrap3 n2 h2
  have j3 := wrap3 n3 h3
  obtain ⟨Z1, hZ1⟩ : ∃ Z1, Z1 = List.replicate ((n1 + 3) * 2) (Value.int .i64 0) := ⟨_, rfl⟩
  obtain ⟨Z2, hZ2⟩ : ∃ Z2, Z2 = List.replicate ((n2 + 3) * 2) (Value.int .i64 0) := ⟨_, rfl⟩
  obtain ⟨Z3, hZ3⟩ : ∃ Z3, Z3 = List.replicate ((n3 + 3) * 3) (Value.int .i64 0) := ⟨_, rfl⟩
  have i1 : ∀ W, (Instr.makeSlice 26 (.int .i64 ((n1 : Int) + 3)) (.int .i64 ((n1 : Int) + 3))).run Tryz.prog W = .ok (.slice (some ⟨W.heap.size, 0, none⟩) (n1 + 3) (n1 + 3)) (W.alloc (.cells Z1.toArray 35)) := fun W => by rw [hZ1]; exact make_any 26 35 2 16 _ Tryz.underlying26 Tryz.info35 (.inl rfl) n1 (by omega) h1 W
  have i2 : ∀ W, (Instr.makeSlice 48 (.int .i64 ((n2 : Int) + 3)) (.int .i64 ((n2 : Int) + 3))).run Tryz.prog W = .ok (.slice (some ⟨W.heap.size, 0, none⟩) (n2 + 3) (n2 + 3)) (W.alloc (.cells Z2.toArray 54)) := fun W => by rw [hZ2]; exact make_any 48 54 2 16 _ Tryz.underlying48 Tryz.info54 (.inl rfl) n2 (by omega) h2 W
  have i3 : ∀ W, (Instr.makeSlice 28 (.int .i64 ((n3 : Int) + 3)) (.int .i64 ((n3 : Int) + 3))).run Tryz.prog W = .ok (.slice (some ⟨W.heap.size, 0, none⟩) (n3 + 3) (n3 + 3)) (W.alloc (.cells Z3.toArray 46)) := fun W => by rw [hZ3]; exact make_any 28 46 3 24 _ Tryz.underlying28 Tryz.info46 (.inr rfl) n3 (by omega) h3 W
  have HZ1 := hid hZ1
  have HZ2 := hid hZ2
  have HZ3 := hid hZ3
  clear hZ1 hZ2 hZ3
  unfold opV
  go_enter Tryz.func45, Tryz.ntmps45
  go_upto_region 1 with fail
  obtain ⟨W0, hW⟩ : ∃ W0 : World, W0 = (w.alloc (.cells #[.int .i64 kd, .slice p1 n1 c1, .slice p2 n2 c2, .slice p3 n3 c3, .int .i64 x, .int .i64 y] 62)).alloc (.cells #[.slice none 0 0, .slice none 0 0, .slice none 0 0] 80) := ⟨_, rfl⟩
  rw [← hW]
  have hbx : W0.heap[w.heap.size]? = some (.cells #[.int .i64 kd, .slice p1 n1 c1, .slice p2 n2 c2, .slice p3 n3 c3, .int .i64 x, .int .i64 y] 62 (0, 0)) := by subst hW; rw [Below.heap_alloc _ _ _ (by rw [size_new]; omega)]; exact heap_new _ _
  have hrs : W0.heap[w.heap.size + 1]? = some (.cells #[.slice none 0 0, .slice none 0 0, .slice none 0 0] 80 (0, 0)) := by subst hW; rw [← size_new w]; exact heap_new _ _
  have hsz : W0.heap.size = w.heap.size + 2 := by subst hW; simp
  have hb0 : Below w.heap.size w W0 := by subst hW; exact ((Below.refl _ _).alloc (Nat.le_refl _) _).alloc (by simp) _
  have b1 : W0.cell? ⟨w.heap.size, 1, none⟩ = some (.slice p1 n1 c1) := heap_cell hbx 1
  have b2 : W0.cell? ⟨w.heap.size, 2, none⟩ = some (.slice p2 n2 c2) := heap_cell hbx 2
  have b3 : W0.cell? ⟨w.heap.size, 3, none⟩ = some (.slice p3 n3 c3) := heap_cell hbx 3
  have HBX := hid hbx
  have HRS := hid hrs
  have HSZ := hid hsz
  have HB0 := hid hb0
  clear hW hbx hrs hsz hb0
  go_cut [3] (fun v wx => ∃ X g1 g2 g3, v = .pointer (some ⟨X, 0, none⟩) ∧ Hid (LentAt W0 wx n1 n2 n3 X g1 g2 g3 Z1 Z2 Z3))
  case first =>
    have nn := World.new_ne W0 ⟨w.heap.size, 1, none⟩ b1
    go_region_held3 (fun w' => w'.cell? ⟨w.heap.size, 1, none⟩ = some (.slice p1 n1 c1) ∧ w'.cell? ⟨w.heap.size, 2, none⟩ = some (.slice p2 n2 c2) ∧ w'.cell? ⟨w.heap.size, 3, none⟩ = some (.slice p3 n3 c3)) (simp (maxDischargeDepth := 20) [*, World.cell?_alloc_some, World.cell?_setCell_far]) (fail)
    all_goals go_wp2_with fail
    all_goals go_meet
    all_goals
      have HF := heap_four
      apply lent_of
      · first | exact (HF _ _ _ _ _).1 | exact (HF _ _ _ _ _).2.1 | exact (HF _ _ _ _ _).2.2.1 | exact (HF _ _ _ _ _).2.2.2.1
      · first | exact (HF _ _ _ _ _).1 | exact (HF _ _ _ _ _).2.1 | exact (HF _ _ _ _ _).2.2.1 | exact (HF _ _ _ _ _).2.2.2.1
      · first | exact (HF _ _ _ _ _).1 | exact (HF _ _ _ _ _).2.1 | exact (HF _ _ _ _ _).2.2.1 | exact (HF _ _ _ _ _).2.2.2.1
      · first | exact (HF _ _ _ _ _).1 | exact (HF _ _ _ _ _).2.1 | exact (HF _ _ _ _ _).2.2.1 | exact (HF _ _ _ _ _).2.2.2.1
      · exact (HF _ _ _ _ _).2.2.2.2
      all_goals omega
  case rest =>
    obtain ⟨X, g1, g2, g3, rfl, hL⟩ := hcut
    clear i1 i2 i3 j1 j2 j3
    have lo : w.heap.size < W0.heap.size := by rw [HSZ.out]; omega
    have hc0 : Hid (Below w.heap.size w wc) := hid (HB0.out.trans (hL.out.2.2.2.2.1.mono HB0.out.size))
    have x0 : wc.cell? ⟨X, 0, none⟩ = some (.slice (some ⟨g1, 0, none⟩) (n1 + 3) (n1 + 3)) := heap_cell hL.out.1 0
    have y1 : wc.cell? ⟨w.heap.size, 1, none⟩ = some (.slice p1 n1 c1) := (hL.out.2.2.2.2.1.cell lo).trans b1
    go_wp2_with (refine wpList_copy_wide rfl (.tmp 21) (.tmp 23) 26 26 rfl 35 2 Tryz.underlying26 (by kernel_rfl) g1 (n1 + 3) (n1 + 3) n1 _ rfl rfl _ 35 hL.out.2.1 z1 (HS1.out.below hc0.out) (by omega) (zeros_fit U1.out HZ1.out) ?_)
    intro w2 q2 hg2
    have hL2 := hid (hL.out.one hg2.out q2.out)
    have hc2 : Hid (Below w.heap.size w w2) := hid (HB0.out.trans (hL2.out.2.2.2.2.1.mono HB0.out.size))
    have x1 : w2.cell? ⟨X, 1, none⟩ = some (.slice (some ⟨g2, 0, none⟩) (n2 + 3) (n2 + 3)) := heap_cell hL2.out.1 1
    have y2 : w2.cell? ⟨w.heap.size, 2, none⟩ = some (.slice p2 n2 c2) := (hL2.out.2.2.2.2.1.cell lo).trans b2
    clear x0 y1
    go_wp2_with (refine wpList_copy_wide rfl (.tmp 26) (.tmp 28) 48 48 rfl 54 2 Tryz.underlying48 (by kernel_rfl) g2 (n2 + 3) (n2 + 3) n2 _ rfl rfl _ 54 hL2.out.2.2.1 z2 (HS2.out.below hc2.out) (by omega) (zeros_fit U2.out HZ2.out) ?_)
    intro w3 q3 hg3
    have hL3 := hid (hL2.out.two hg3.out q3.out)
    have hc3 : Hid (Below w.heap.size w w3) := hid (HB0.out.trans (hL3.out.2.2.2.2.1.mono HB0.out.size))
    have x2 : w3.cell? ⟨X, 2, none⟩ = some (.slice (some ⟨g3, 0, none⟩) (n3 + 3) (n3 + 3)) := heap_cell hL3.out.1 2
    have y3 : w3.cell? ⟨w.heap.size, 3, none⟩ = some (.slice p3 n3 c3) := (hL3.out.2.2.2.2.1.cell lo).trans b3
    clear x1 y2
    go_wp2_with (refine wpList_copy_wide rfl (.tmp 31) (.tmp 33) 28 28 rfl 46 3 Tryz.underlying28 (by kernel_rfl) g3 (n3 + 3) (n3 + 3) n3 _ rfl rfl _ 46 hL3.out.2.2.2.1 z3 (HS3.out.below hc3.out) (by omega) (zeros_fit U3.out HZ3.out) ?_)
    intro w4 q4 hg4
    have hL4 := hid (hL3.out.three hg4.out q4.out)
    have hc4 : Hid (Below w.heap.size w w4) := hid (HB0.out.trans (hL4.out.2.2.2.2.1.mono HB0.out.size))
    have lo1 : w.heap.size + 1 < W0.heap.size := by rw [HSZ.out]; omega
    have x40 : w4.cell? ⟨X, 0, none⟩ = some (.slice (some ⟨g1, 0, none⟩) (n1 + 3) (n1 + 3)) := heap_cell hL4.out.1 0
    have x41 : w4.cell? ⟨X, 1, none⟩ = some (.slice (some ⟨g2, 0, none⟩) (n2 + 3) (n2 + 3)) := heap_cell hL4.out.1 1
    have x42 : w4.cell? ⟨X, 2, none⟩ = some (.slice (some ⟨g3, 0, none⟩) (n3 + 3) (n3 + 3)) := heap_cell hL4.out.1 2
    have r4 : Hid (w4.heap[w.heap.size + 1]? = some (.cells #[.slice none 0 0, .slice none 0 0, .slice none 0 0] 80 (0, 0))) := hid ((hL4.out.2.2.2.2.1.block _ lo1).trans HRS.out)
    have r40 : w4.cell? ⟨w.heap.size + 1, 0, none⟩ = some (.slice none 0 0) := heap_cell r4.out 0
    have r41 : w4.cell? ⟨w.heap.size + 1, 1, none⟩ = some (.slice none 0 0) := heap_cell r4.out 1
    have r42 : w4.cell? ⟨w.heap.size + 1, 2, none⟩ = some (.slice none 0 0) := heap_cell r4.out 2
    have f40 : w4.frozen? ⟨w.heap.size + 1, 0, none⟩ = false := heap_free r4.out 0
    have f41 : w4.frozen? ⟨w.heap.size + 1, 1, none⟩ = false := heap_free r4.out 1
    have f42 : w4.frozen? ⟨w.heap.size + 1, 2, none⟩ = false := heap_free r4.out 2
    clear x2 y3
    go_wp2
    have oth : ∀ g, w.heap.size + 1 ≠ g → ∀ (a b c : Value), (((w4.setCell ⟨w.heap.size + 1, 0, none⟩ a).setCell ⟨w.heap.size + 1, 1, none⟩ b).setCell ⟨w.heap.size + 1, 2, none⟩ c).heap[g]? = w4.heap[g]? := by
      intro g hg a b c
      rw [Below.heap_setCell _ _ _ _ (fun e => hg e.symm), Below.heap_setCell _ _ _ _ (fun e => hg e.symm), Below.heap_setCell _ _ _ _ (fun e => hg e.symm)]
    obtain ⟨e0, e1, e2, e3, hb, k0, k1, k2, k3⟩ := hL4.out
    rw [HSZ.out] at k0 k1 k2 k3
    refine bodyPost_ret (v := .agg #[.slice (some ⟨g1, 0, none⟩) (n1 + 3) (n1 + 3), .slice (some ⟨g2, 0, none⟩) (n2 + 3) (n2 + 3), .slice (some ⟨g3, 0, none⟩) (n3 + 3) (n3 + 3)]) ?r rfl ?q
    case r => simp [results, Tryz.results45, go_sem, r40, r41, r42]
    case q =>
      refine ⟨g1, g2, g3, rfl, ?_, ?_, ?_, ?_, by omega, by omega, by omega⟩
      · rw [oth _ (by omega), e1, tail_zeros U1.out HZ1.out]
      · rw [oth _ (by omega), e2, tail_zeros U2.out HZ2.out]
      · rw [oth _ (by omega), e3, tail_zeros U3.out HZ3.out]
      · exact ((hc4.out.setCell (by show w.heap.size ≤ w.heap.size + 1; omega) _).setCell (by show w.heap.size ≤ w.heap.size + 1; omega) _).setCell (by show w.heap.size ≤ w.heap.size + 1; omega) _
end Go.Proofs.YtdbebbbceeopaaaGreat
