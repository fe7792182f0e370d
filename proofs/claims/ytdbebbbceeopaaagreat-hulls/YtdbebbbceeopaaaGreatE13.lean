import Derived.Test.YtdbebbbceeopaaaGreatE12
import Derived.WalkKit
import Derived.ProofKit
import Derived.OpenShut
import Derived.ShutString
import Derived.ChangeOld
import Derived.Below
import Derived.JoinedCond
import Derived.Deep.Slices
import Derived.SizedLaws
namespace Go.Proofs.YtdbebbbceeopaaaGreat.hulls
open Go.ChangeShapes Go.WideShapes Go.ChangeAt Go.RowKit
set_option linter.unusedVariables false

theorem own : ownKnob Tryz.prog.godebug = none := by kernel_rfl
theorem laidOut : laidOutB Tryz.prog = true := by kernel_rfl

/-! What the bound on the bytes gives. -/
theorem weights_all {H : Type} {P : Program} {e : TypeId} {d : DataW H} : ∀ {l : List (DataW H)}, d ∈ l → ∀ n ∈ d.weights P e, n ∈ DataW.weightsAll P e l
  | [], h, _, _ => by cases h
  | x :: r, h, n, hn => by
    rw [DataW.weightsAll]
    rcases List.mem_cons.1 h with rfl | h
    · exact List.mem_append_left _ hn
    · exact List.mem_append_right _ (weights_all h n hn)

/-- No list that is reached takes more bytes than may be. -/
def Light {H : Type} (t : TypeId) (d : DataW H) : Prop := ∀ n ∈ d.weights Tryz.prog t, n ≤ 140737488351232

theorem light_slice {H : Type} {t e : TypeId} {l r : List (DataW H)} (ht : Tryz.prog.underlying t = some (.slice e)) (h : Light t (.slice l r)) : (l.length + r.length) * Tryz.prog.bytesOf e ≤ 140737488351232 ∧ ∀ d ∈ l, Light e d := by
  have w : DataW.weights Tryz.prog t (.slice l r) = (l.length + r.length) * Tryz.prog.bytesOf e :: (DataW.weightsAll Tryz.prog e l ++ DataW.weightsAll Tryz.prog e r) := by
    rw [DataW.weights, ht]
  unfold Light at h
  rw [w] at h
  exact ⟨h _ (List.mem_cons_self ..), fun d hd n hn => h n (List.mem_cons_of_mem _ (List.mem_append_left _ (weights_all hd n hn)))⟩

section
variable {H : Type} {enc : TypeId × Value → H} {w : World} {base : Nat} {spare : Nat → Bool} {held : Bool}

/-- A struct of whole numbers. -/
theorem open_nums {t : TypeId} {fs : Array Field} {fuel : Nat} {cs : List Value} {x : DataW H × List MemPlace} (hu : Tryz.prog.underlying t = some (.struct fs)) (sz : Nat) (hc : Tryz.prog.cellsOf t = sz) (hs : fs.size = sz)
    (hf : ∀ (i : Nat) (f : Field), fs[i]? = some f → f.type = 3 ∧ f.offset = i) (h : DataW.trod enc Tryz.prog w base spare held fuel t cs = some x) : ∃ zs : List Int, zs.length = sz ∧ cs = ivs zs := by
  obtain ⟨xs, k, _, _, hlen, hxl, hx⟩ := DataW.trod_struct hu h
  rw [hc] at hlen
  rw [hs] at hxl
  have c3 : Tryz.prog.cellsOf 3 = 1 := by kernel_rfl
  have each : ∀ i, i < sz → ∃ n : Int, cs[i]? = some (.int .i64 n) := by
    intro i hi
    obtain ⟨f, hfi⟩ : ∃ f, fs[i]? = some f := ⟨_, Array.getElem?_eq_getElem (by omega)⟩
    have g := hx i f hfi
    obtain ⟨e1, e2⟩ := hf i f hfi
    rw [e1, e2, c3, List.getElem?_eq_getElem (by omega)] at g
    obtain ⟨n, hn, _⟩ := DataW.trod_int Tryz.underlying3 g
    refine ⟨n, ?_⟩
    have : ((cs.drop i).take 1)[0]? = some (.int .i64 n) := by rw [hn]; rfl
    rw [List.getElem?_take, List.getElem?_drop] at this
    simpa using this
  obtain ⟨Z, hZ⟩ := Go.Deep.choose_lt each
  refine ⟨(List.range sz).map Z, by simp, ?_⟩
  apply List.ext_getElem?
  intro i
  by_cases hi : i < sz
  · rw [hZ i hi]
    simp [ivs, hi]
  · rw [List.getElem?_eq_none (by omega)]
    simp [ivs, hi]

theorem nums33 : ∀ (i : Nat) (f : Field), (#[{ name := "X", type := 3, offset := 0, embedded := false, tag := "", pkgPath := "", byteOffset := 0 }, { name := "Y", type := 3, offset := 1, embedded := false, tag := "", pkgPath := "", byteOffset := 8 }] : Array Field)[i]? = some f → f.type = 3 ∧ f.offset = i := by
  intro i f h
  rcases i with _ | _ | i
  · cases h; exact ⟨rfl, rfl⟩
  · cases h; exact ⟨rfl, rfl⟩
  · simp at h

theorem nums83 : ∀ (i : Nat) (f : Field), (#[{ name := "A", type := 3, offset := 0, embedded := false, tag := "", pkgPath := "", byteOffset := 0 }, { name := "B", type := 3, offset := 1, embedded := false, tag := "", pkgPath := "", byteOffset := 8 }] : Array Field)[i]? = some f → f.type = 3 ∧ f.offset = i := by
  intro i f h
  rcases i with _ | _ | i
  · cases h; exact ⟨rfl, rfl⟩
  · cases h; exact ⟨rfl, rfl⟩
  · simp at h

theorem nums66 : ∀ (i : Nat) (f : Field), (#[{ name := "A", type := 3, offset := 0, embedded := false, tag := "", pkgPath := "", byteOffset := 0 }, { name := "B", type := 3, offset := 1, embedded := false, tag := "", pkgPath := "", byteOffset := 8 }, { name := "C", type := 3, offset := 2, embedded := false, tag := "", pkgPath := "", byteOffset := 16 }] : Array Field)[i]? = some f → f.type = 3 ∧ f.offset = i := by
  intro i f h
  rcases i with _ | _ | _ | i
  · cases h; exact ⟨rfl, rfl⟩
  · cases h; exact ⟨rfl, rfl⟩
  · cases h; exact ⟨rfl, rfl⟩
  · simp at h

/-- A list of such structs, as 'Src' has it. -/
theorem open_src {t e : TypeId} {fs : Array Field} {fuel : Nat} {v : Value} {d : DataW H} {pl : List MemPlace} (ht : Tryz.prog.underlying t = some (.slice e)) (hu : Tryz.prog.underlying e = some (.struct fs)) (sz : Nat) (hpos : 0 < sz) (hc : Tryz.prog.cellsOf e = sz) (hs : fs.size = sz)
    (hf : ∀ (i : Nat) (f : Field), fs[i]? = some f → f.type = 3 ∧ f.offset = i) (h : DataW.trod enc Tryz.prog w base spare held fuel t [v] = some (d, pl)) (hL : Light t d) (hby : 16 ≤ Tryz.prog.bytesOf e) : ∃ n zs, Src w v sz n zs ∧ n ≤ 8796093021952 := by
  rcases Go.Deep.open_slice ht h with ⟨h0, _⟩ | ⟨a, len, cap, m, n, D, Pl, hcs, _, hl, hm, hmm, hx, hel⟩
  · cases h0
    exact ⟨0, [], src_nil _ _, Nat.zero_le _⟩
  · cases hcs
    have hlm : len ≤ m := by rw [hmm]; split <;> omega
    have each : ∀ i, i < len → ∃ zs : List Int, zs.length = sz ∧ ∀ r, r < sz → w.cell? (a.add (i * sz + r)) = some (.int .i64 (zs.getD r 0)) := by
      intro i hi
      obtain ⟨cs, h1, h2⟩ := hel i (by omega)
      obtain ⟨zs, h3, rfl⟩ := open_nums hu sz hc hs hf h2
      rw [hc] at h1
      obtain ⟨_, _, hcell⟩ := World.cells?_some h1
      refine ⟨zs, h3, fun r hr => ?_⟩
      have := hcell r hr
      rw [Go.Deep.add_add] at this
      rw [this]
      simp [ivs, h3, hr]
    obtain ⟨Z, hZ⟩ := Go.Deep.choose_lt each
    refine ⟨len, (List.range (len * sz)).map fun j => (Z (j / sz)).getD (j % sz) 0, ⟨by simp, some a, cap, rfl, (fun e => by cases e), ?_⟩, ?_⟩
    · intro a' ha j z hj
      cases ha
      rw [List.getElem?_map] at hj
      obtain ⟨j', h1, h2⟩ := Option.map_eq_some_iff.1 hj
      obtain ⟨hjl, rfl⟩ : j < len * sz ∧ j = j' := by
        rcases Nat.lt_or_ge j (len * sz) with h | h
        · rw [List.getElem?_range h] at h1
          exact ⟨h, by simpa using h1⟩
        · rw [List.getElem?_eq_none (by simpa using h)] at h1
          cases h1
      subst h2
      have h3 := (hZ (j / sz) (Nat.div_lt_of_lt_mul (by rw [Nat.mul_comm]; exact hjl))).2 (j % sz) (Nat.mod_lt _ hpos)
      rw [Nat.div_add_mod'] at h3
      exact h3
    · simp only [Prod.mk.injEq] at hx
      rw [hx.1] at hL
      have h1 := (light_slice ht hL).1
      simp only [List.length_map, List.length_range] at h1
      have h2 : len * 16 ≤ (len + (m - len)) * Tryz.prog.bytesOf e := Nat.mul_le_mul (by omega) hby
      omega

set_option maxRecDepth 100000 in
theorem open_op {fuel : Nat} {cs : List Value} {d : DataW H} {pl : List MemPlace} (h : DataW.trod enc Tryz.prog w base spare held fuel 62 cs = some (d, pl)) (hL : Light 62 d) :
    ∃ kd x y v1 v2 v3 n1 n2 n3 z1 z2 z3, cs = [.int .i64 kd, v1, v2, v3, .int .i64 x, .int .i64 y] ∧ Src w v1 2 n1 z1 ∧ Src w v2 2 n2 z2 ∧ Src w v3 3 n3 z3 ∧ n1 ≤ 8796093021952 ∧ n2 ≤ 8796093021952 ∧ n3 ≤ 8796093021952 := by
  obtain ⟨xs, k, _, hx, hlen, hxl, hf⟩ := DataW.trod_struct Tryz.underlying62 h
  have c44 : Tryz.prog.cellsOf 62 = 6 := by kernel_rfl
  rw [c44] at hlen
  have c3 : Tryz.prog.cellsOf 3 = 1 := by kernel_rfl
  have c26 : Tryz.prog.cellsOf 26 = 1 := by kernel_rfl
  have c41 : Tryz.prog.cellsOf 48 = 1 := by kernel_rfl
  have c42 : Tryz.prog.cellsOf 28 = 1 := by kernel_rfl
  have c33 : Tryz.prog.cellsOf 35 = 2 := by kernel_rfl
  match cs, hlen, xs, hxl with
  | [u0, u1, u2, u3, u4, u5], _, [y0, y1, y2, y3, y4], _ =>
    have g0 : DataW.trod enc Tryz.prog w base spare held k 3 (List.take (Tryz.prog.cellsOf 3) [u0, u1, u2, u3, u4, u5]) = some y0 := hf 0 _ rfl
    rw [c3] at g0
    have g1 : DataW.trod enc Tryz.prog w base spare held k 26 (List.take (Tryz.prog.cellsOf 26) [u1, u2, u3, u4, u5]) = some y1 := hf 1 _ rfl
    rw [c26] at g1
    have g2 : DataW.trod enc Tryz.prog w base spare held k 48 (List.take (Tryz.prog.cellsOf 48) [u2, u3, u4, u5]) = some y2 := hf 2 _ rfl
    rw [c41] at g2
    have g3 : DataW.trod enc Tryz.prog w base spare held k 28 (List.take (Tryz.prog.cellsOf 28) [u3, u4, u5]) = some y3 := hf 3 _ rfl
    rw [c42] at g3
    have g4 : DataW.trod enc Tryz.prog w base spare held k 35 (List.take (Tryz.prog.cellsOf 35) [u4, u5]) = some y4 := hf 4 _ rfl
    rw [c33] at g4
    obtain ⟨kd, e0, _⟩ := DataW.trod_int Tryz.underlying3 g0
    simp only [Prod.mk.injEq] at hx
    have hw : DataW.weights Tryz.prog 62 d = DataW.weightsEach Tryz.prog [3, 26, 48, 28, 35] [y0.1, y1.1, y2.1, y3.1, y4.1] := by
      rw [hx.1, DataW.weights, Tryz.underlying62]
      rfl
    have L1 : Light 26 y1.1 := fun n hn => hL n (by rw [hw]; exact DataW.weights_mem_each (j := 1) rfl rfl n hn)
    have L2 : Light 48 y2.1 := fun n hn => hL n (by rw [hw]; exact DataW.weights_mem_each (j := 2) rfl rfl n hn)
    have L3 : Light 28 y3.1 := fun n hn => hL n (by rw [hw]; exact DataW.weights_mem_each (j := 3) rfl rfl n hn)
    have by1 : 16 ≤ Tryz.prog.bytesOf 35 := of_decide_eq_true (by kernel_rfl)
    have by2 : 16 ≤ Tryz.prog.bytesOf 54 := of_decide_eq_true (by kernel_rfl)
    have by3 : 16 ≤ Tryz.prog.bytesOf 46 := of_decide_eq_true (by kernel_rfl)
    obtain ⟨n1, z1, s1, b1⟩ := open_src (d := y1.1) (pl := y1.2) (v := u1) Tryz.underlying26 Tryz.underlying35 2 (by omega) c33 rfl nums33 g1 L1 by1
    obtain ⟨n2, z2, s2, b2⟩ := open_src (d := y2.1) (pl := y2.2) (v := u2) Tryz.underlying48 Tryz.underlying54 2 (by omega) (by kernel_rfl) rfl nums83 g2 L2 by2
    obtain ⟨n3, z3, s3, b3⟩ := open_src (d := y3.1) (pl := y3.2) (v := u3) Tryz.underlying28 Tryz.underlying46 3 (by omega) (by kernel_rfl) rfl nums66 g3 L3 by3
    obtain ⟨zp, lp, ep⟩ := open_nums Tryz.underlying35 2 c33 rfl nums33 g4
    match zp, lp with
    | [x, y], _ =>
      simp [ivs] at e0 ep
      obtain ⟨rfl, rfl⟩ := ep
      subst e0
      exact ⟨kd, x, y, u1, u2, u3, n1, n2, n3, z1, z2, z3, rfl, s1, s2, s3, b1, b2, b3⟩

set_option maxRecDepth 100000 in
theorem open_ops {fuel : Nat} {p : Option Addr} {len cap : Nat} {d : DataW H} {pl : List MemPlace} (h : DataW.trod enc Tryz.prog w base spare held fuel 22 [.slice p len cap] = some (d, pl)) (hL : Light 22 d) : Ops w p len := by
  rcases Go.Deep.open_slice Tryz.underlying22 h with ⟨h0, _⟩ | ⟨a, len', cap', m, n, D, Pl, hcs, _, hl, hm, hmm, hx, hel⟩
  · cases h0
    exact ⟨by omega, fun i hi => by omega⟩
  · cases hcs
    have c44 : Tryz.prog.cellsOf 62 = 6 := by kernel_rfl
    have hlm : len ≤ m := by rw [hmm]; split <;> omega
    simp only [Prod.mk.injEq] at hx
    rw [hx.1] at hL
    have h1 := light_slice Tryz.underlying22 hL
    have h3 := h1.1
    have by1 : Tryz.prog.bytesOf 62 = 96 := by kernel_rfl
    rw [by1] at h3
    simp only [List.length_map, List.length_range] at h3
    refine ⟨by omega, fun i hi => ?_⟩
    obtain ⟨cs, g1, g2⟩ := hel i (by omega)
    rw [c44] at g1
    obtain ⟨_, _, hcell⟩ := World.cells?_some g1
    obtain ⟨kd, x, y, v1, v2, v3, n1, n2, n3, z1, z2, z3, rfl, s1, s2, s3, b1, b2, b3⟩ := open_op (d := D i) (pl := Pl i) g2 (h1.2 _ (List.mem_map.2 ⟨i, List.mem_range.2 hi, rfl⟩))
    have e : ∀ r, r < 6 → w.cell? (a.add (i * 6 + r)) = [Value.int .i64 kd, v1, v2, v3, .int .i64 x, .int .i64 y][r]? := by
      intro r hr
      have := hcell r hr
      rw [Go.Deep.add_add] at this
      exact this
    have hsp : a.spot = none := by
      rcases Nat.eq_zero_or_pos i with h | h
      · subst h
        have := World.cell?_spot (e 0 (by omega))
        simpa [Addr.add] using this
      · have := hel 0 (by omega)
        obtain ⟨cs0, q1, q2⟩ := this
        rw [c44] at q1
        obtain ⟨_, hl0, hc0⟩ := World.cells?_some q1
        have q3 := hc0 0 (by omega)
        rw [List.getElem?_eq_getElem (by omega)] at q3
        have := World.cell?_spot q3
        simpa [Addr.add] using this
    obtain ⟨b, o, sp⟩ := a
    simp at hsp
    subst hsp
    have ad : ∀ r, (⟨b, o, none⟩ : Addr).add (i * 6 + r) = ⟨b, o + i * 6 + r, none⟩ := by
      intro r
      unfold Addr.add
      split
      · rename_i h; have h1 : i * 6 = 0 := by omega
        have h2 : r = 0 := by omega
        rw [h1, h2]; rfl
      · simp [Nat.add_assoc]
    refine ⟨b, o, kd, x, y, v1, v2, v3, n1, n2, n3, z1, z2, z3, rfl, ⟨?_, ?_, ?_, ?_, ?_, ?_, by omega, by omega, by omega, s1, s2, s3⟩⟩
    · have := e 0 (by omega); rw [ad] at this; exact this
    · have := e 1 (by omega); rw [ad] at this; exact this
    · have := e 2 (by omega); rw [ad] at this; exact this
    · have := e 3 (by omega); rw [ad] at this; exact this
    · have := e 4 (by omega); rw [ad] at this; exact this
    · have := e 5 (by omega); rw [ad] at this; exact this
end

theorem walk (p : Option Addr) (len cap : Nat) (w : World) (h : Ops w p len) : Calls Tryz.prog 3 #[.slice p len cap] w fun e w' => e = .returned (.bool true) ∧ Below w.heap.size w w' := hulls_any w p len cap h

set_option maxRecDepth 100000 in
theorem lifted (os : Os) (started : os.Started) (H : Type) (enc : TypeId × Value → H) :
    ReturnsInHanded {} Tryz.checked os 3 .any (Rows.hullsSpec.pre6 enc Tryz.prog Tryz.f3 Rows.hullsRow.domain false) (Rows.hullsSpec.post enc Tryz.prog Tryz.f3 false true false false) := by
  refine returnsInHanded_of_change_sized (C := Tryz.checked) own started (by kernel_rfl) Tryz.func3
    (ChangeSpec.witness6 (enc := enc) (C := Tryz.checked) false ⟨#[], #[.slice none 0 0], []⟩ 8 (by kernel_rfl) (by kernel_rfl) (by kernel_rfl) (by kernel_rfl)) ?_
  intro W base args ds gs before hval0 hW hcnd hsz0 _
  have hval : ∀ (j : Nat) t v, Tryz.f3.params[j]? = some t → args[j]? = some v → Value.okWide Tryz.prog W .any base t v := hval0
  have hW' := hW
  obtain ⟨p, q, hA0, hV, rfl, hfz, hnd⟩ := hW
  have hA : DataW.TrodAll enc Tryz.prog W 0 (fun _ => true) true Tryz.f3.params.toList args.toList ds p := hA0
  have hsz : (DataW.weightsEach Tryz.prog (Tryz.f3.params.toList ++ Rows.hullsSpec.plain.varTypes Tryz.prog) (ds ++ gs)).all (· ≤ reachBytes) = true := hsz0
  rw [Tryz.params3] at hA hval hsz
  obtain ⟨v0, vs0, d0, ds0, p0, q0, hargs, rfl, rfl, h0, r0⟩ := trodAll_cons hA
  obtain ⟨rfl, rfl, rfl⟩ := trodAll_nil r0
  obtain rfl : args = #[v0] := by cases args; simp_all
  obtain ⟨rfl, rfl⟩ := trodVars_none hV
  obtain ⟨a0, len0, cap0, rfl⟩ := okWide_slice Tryz.underlying22 (hval 0 22 v0 rfl rfl)
  have k0 := h0
  have lt0 : ∀ x ∈ p0, x.block < W.heap.size := by obtain ⟨m, hm⟩ := k0; exact DataW.trod_lt m _ _ _ hm
  have hL : Light 22 d0 := fun n hn => of_decide_eq_true (List.all_eq_true.1 hsz n (DataW.weights_mem_each (j := 0) rfl rfl n hn))
  have hops : Ops W a0 len0 := by
    obtain ⟨fuel, hf⟩ := h0
    exact open_ops hf hL
  clear hA0 hval0
  refine (walk a0 len0 cap0 W hops).mono fun e W' ⟨he, bel⟩ => ?_
  subst he
  exact ⟨_, rfl, _, _, _, [], _, [], hW', trodAll_mk1 (shut_bool Tryz.underlying4 _), (trodAll_cons_mk (Below.trod laidOut (by kernel_rfl) (of_decide_eq_true (by kernel_rfl)) k0 bel lt0) trodAll_mk0), rfl, bel.frame _, fun h => by cases h⟩

theorem over : Rows.hullsRow.holds Tryz.pinned (OpenSpec.ofChange Rows.hullsSpec) :=
  OpenClaim.holds_of_wide 3 Tryz.f3 rfl rfl rfl rfl rfl rfl rfl ⟨rfl, rfl, rfl, rfl, rfl⟩ rfl rfl rfl rfl rfl (by kernel_rfl) Tryz.func3 (by kernel_rfl)
    (of_decide_eq_true (by kernel_rfl)) (by unfold Func.isWrapper; first | (rw [if_pos (by decide +kernel)]; kernel_rfl) | (rw [if_neg (by decide +kernel)]; exact ⟨rfl, rfl⟩))
    (fun os started H enc _ => lifted os started H enc)

theorem proved : Rows.HullsSaid := over
end Go.Proofs.YtdbebbbceeopaaaGreat.hulls
namespace Go.Proofs.YtdbebbbceeopaaaGreat
theorem hullsHolds : Rows.HullsSaid := hulls.proved
#print axioms hullsHolds
end Go.Proofs.YtdbebbbceeopaaaGreat
