import Derived.Test.YtdbebbbceeopaaaGreatK28
set_option linter.unusedSimpArgs false
namespace Go.Proofs.YtdbebbbceeopaaaGreat
open Go.RowKit
open Geo (rv rv_rv rv_lt)

theorem own_in {w : World} {B e size n : Nat} {v : Value} {xs : List Value} (h : w.ownsRow B e size v n xs) : ∀ q, v.ownBlock = some q → B ≤ q ∧ q < w.heap.size := by
  intro q hq
  rcases h.2 with ⟨rfl, _⟩ | ⟨g, cap, cur, rfl, hb, hh, _⟩
  · cases hq
  · cases hq
    exact ⟨hb, (Array.getElem?_eq_some_iff.1 hh).1⟩

theorem new_two (w : World) (a b : Value) : ∀ (j : Nat) (u : Value), [a, b][j]? = some u → (w.alloc (.cells #[a, b] 35)).cell? ((⟨w.heap.size, 0, none⟩ : Addr).add j) = some u := by
  intro j u hu
  match j, hu with
  | 0, hu => simp at hu; subst hu; exact World.cell?_alloc_at _ _ _ _ rfl
  | 1, hu => simp at hu; subst hu; exact World.cell?_alloc_at _ _ _ _ rfl
  | j + 2, hu => simp at hu

theorem one_two (a b : Int) : ∀ u ∈ [Value.int .i64 a, Value.int .i64 b], u.oneCell' = true := by
  intro u hu
  simp at hu
  rcases hu with rfl | rfl <;> rfl

/-- append, as one of a list of operations, and where what it gives lies. -/
theorem wpList_append_pts {P : Program} (w : World) {ops : Array Oper} {rest : List Oper} {o : Oper} {a : Act} {Q : Exit → Act → World → Prop} (hgd : o.guard = none) (s x : Operand) (t : TypeId)
    (ho : o.op = .call { callee := .builtin .append, args := #[s, x], argTypes := #[t, t] })
    (base : Nat) (e : TypeId) (i : TypeInfo) (z : Value) (size bytes : Nat) (ht : P.underlying t = some (.slice e)) (hi : P.info? e = some i) (hz : i.zero = some z)
    (hsize : i.size = size) (hby : i.bytes = bytes) (hzs : z.cells.size = size) (hsz : 0 < size)
    (v : Value) (n : Nat) (xs : List Value) (hs : a.eval s = v) (hown : w.ownsRow base e size v n xs)
    (ad : Addr) (m c : Nat) (news : List Value) (hx : a.eval x = .slice (some ad) m c) (hl : news.length = m * size) (hnews : ∀ j u, news[j]? = some u → w.cell? (ad.add j) = some u) (h1 : ∀ u ∈ news, u.oneCell' = true)
    (hm : 0 < m) (h63 : n + m ≤ maxLen) (hbytes : (n + m) * bytes ≤ 140737488355328) (hbase : base ≤ w.heap.size) (H : Nat) (hH : w.heap.size = H)
    (h : ∀ g cap w', w'.ownsRow base e size (.slice (some ⟨g, 0, none⟩) (n + m) cap) (n + m) (xs ++ news) → w.grownBy w' v.ownBlock → (v.ownBlock = some g ∨ g = H) → g < w'.heap.size → wpList P ops Q rest (a.put o.dst (.slice (some ⟨g, 0, none⟩) (n + m) cap)) w') : wpList P ops Q (o :: rest) a w :=
  wpList_plain hgd fun _ hK => wp_append_lies w s x t ho base e i z size bytes ht hi hz hsize hby hzs hsz v n xs hs hown ad m c news hx hl hnews h1 hm h63 hbytes hbase H hH fun g cap w' h2 h3 h4 h5 => hK _ _ (h g cap w' h2 h3 h4 h5)

/-- A list of points that is made longer, another beside it, and all that is older. -/
theorem far_step {w1 W0 w9 : World} {fv bv : Value} {i k g gi ci : Nat} {xs ys : List Value} (HO : W0.ownsRow w1.heap.size 35 2 fv i xs) (HU : W0.ownsRow w1.heap.size 35 2 bv k ys) (HD : ∀ q, fv.ownBlock = some q → bv.ownBlock ≠ some q) (HB : Below w1.heap.size w1 W0) (hg : g < w1.heap.size) (x y : Int)
    (hown : w9.ownsRow w1.heap.size 35 2 (.slice (some ⟨gi, 0, none⟩) (i + 1) ci) (i + 1) (xs ++ [.int .i64 x, .int .i64 y]))
    (hgrow : W0.grownBy w9 fv.ownBlock) (hat : fv.ownBlock = some gi ∨ gi = W0.heap.size) :
    w9.ownsRow w1.heap.size 35 2 (.slice (some ⟨gi, 0, none⟩) (i + 1) ci) (i + 1) (xs ++ [.int .i64 x, .int .i64 y]) ∧ w9.ownsRow w1.heap.size 35 2 bv k ys ∧ (∀ q, Value.ownBlock (.slice (some ⟨gi, 0, none⟩) (i + 1) ci) = some q → bv.ownBlock ≠ some q) ∧
      (∀ {o : Nat} (v : Value), W0.cell? ⟨g, o, none⟩ = some v → w9.cell? ⟨g, o, none⟩ = some v) ∧ Below w1.heap.size w1 w9 := by
  have f1 := own_in HO
  have f2 := own_in HU
  refine ⟨hown, ?_, ?_, ?_, ?_⟩
  · refine HU.kept hgrow ?_
    cases hb : bv.ownBlock with
    | none => exact .inl rfl
    | some q => exact .inr (fun e => HD q e.symm hb)
  · intro q hq hb
    have e : gi = q := Option.some.inj hq
    subst e
    rcases hat with h | h
    · exact HD _ h hb
    · have := (f2 _ hb).2
      omega
  · intro o v hv
    refine hgrow.cell (a := ⟨g, o, none⟩) hv (fun e => ?_)
    have := (f1 g e.symm).1
    omega
  · exact HB.grown hgrow HB.size (fun q hq => (f1 q hq).1)

theorem tri_few {n : Nat} {px py : Nat → Int} (h3 : 3 ≤ n) (h40 : n ≤ 40) (hr : refI px py n = 0) (g cp : Nat) (w : World) (hp : Pts w g 0 n px py) (hcp : n ≤ cp) :
    Calls Tryz.prog 15 #[.slice (some ⟨g, 0, none⟩) n cp] w fun e w' => Below w.heap.size w w' ∧ ∃ (g2 cp2 : Nat) (d : Array T3) (M : Nat → Nat → Option Nat) (hs : List Nat), e = .returned (.tuple #[.slice (some ⟨g2, 0, none⟩) d.size cp2, .int .i64 0]) ∧ d.size ≤ 1600 ∧ 0 < d.size ∧ Trs w' g2 0 d.size (dz d) ∧ Tris M d ∧ Msh px py n M hs ∧ Geo.Loc px py M := by
  have hz : NeZero n := ⟨by omega⟩
  refine (triangles_ok px py n g 0 cp w hp h3 h40 hcp hr).mono ?_
  rintro e w' ⟨hb, g2, cp2, d, M, hs, rfl, hg2, hd, hown, hT, hM, hL⟩
  refine ⟨hb, g2, cp2, d, M, hs, rfl, hd, ?_, trs_own hown, hT, hM, hL⟩
  obtain ⟨a, b, c, e, h1, h2⟩ := one_tri hM.mesh hM.cor (by omega)
  have := List.length_pos_of_mem (hT.all a b c e h1 h2)
  simpa using this

theorem sane_few {n : Nat} {px py : Nat → Int} {M : Nat → Nat → Option Nat} {hs : List Nat} {d : Array T3} (hbd : Bds n px py) (hT : Tris M d) (hM : Msh px py n M hs) (g cp g2 cp2 : Nat) (w : World) (hp : Pts w g 0 n px py) (ht : Trs w g2 0 d.size (dz d)) (hd : d.size ≤ 1600) :
    Calls Tryz.prog 16 #[.slice (some ⟨g, 0, none⟩) n cp, .slice (some ⟨g2, 0, none⟩) d.size cp2] w fun e w' => e = .returned (.bool true) ∧ Below w.heap.size w w' :=
  sane_any px py n g 0 cp d.size cp2 (some ⟨g2, 0, none⟩) (dz d) (dA d) (dB d) (dC d) w hp (fun _ => ⟨g2, 0, rfl, ht⟩) (by omega) hbd (hT.row3 hM.mesh) (fun i hi => (hT.lists.tri i hi).2) (fun i hi => hM.mesh.pos _ _ _ (hT.lists.tri i hi).1)

/-- As many triangles, wherever the points are moved and whichever way their list goes. -/
theorem moved_len {n : Nat} {px py : Nat → Int} {x y : Int} (h : Few n px py) (hx : -250 ≤ x ∧ x ≤ 249) (hy : -250 ≤ y ∧ y ≤ 249) {M M3 M4 : Nat → Nat → Option Nat} {hs hs3 hs4 : List Nat} {d d3 d4 : Array T3} (hM : Msh px py n M hs) (hT : Tris M d)
    (hM3 : Msh (fun i => px i + x) (fun i => py i + y) n M3 hs3) (hT3 : Tris M3 d3) (hM4 : Msh (fun i => px (rv n i)) (fun i => py (rv n i)) n M4 hs4) (hT4 : Tris M4 d4) : d3.size = d.size ∧ d4.size = d.size := by
  have c := hM.count h.len h.ref h.inj hT.lists
  have c3 := hM3.count h.len (h.ref_far hx hy) (refI_inj (h.ref_far hx hy)) hT3.lists
  have c4 := hM4.count h.len h.ref_back (refI_inj h.ref_back) hT4.lists
  rw [bdc_shift] at c3
  rw [bdc_rev] at c4
  omega

theorem moved_eq {n : Nat} {px py : Nat → Int} {x y : Int} (h : Few n px py) (hf : Geo.Free px py n) {M M3 M4 : Nat → Nat → Option Nat} {hs hs3 hs4 : List Nat} {d d3 d4 : Array T3} (hM : Msh px py n M hs) (hT : Tris M d) (hL : Geo.Loc px py M)
    (hM3 : Msh (fun i => px i + x) (fun i => py i + y) n M3 hs3) (hT3 : Tris M3 d3) (hL3 : Geo.Loc (fun i => px i + x) (fun i => py i + y) M3) (hM4 : Msh (fun i => px (rv n i)) (fun i => py (rv n i)) n M4 hs4) (hT4 : Tris M4 d4) (hL4 : Geo.Loc (fun i => px (rv n i)) (fun i => py (rv n i)) M4)
    {i k : Nat} (hi : i < n) (hk : k < i) : sideB (dA d3) (dB d3) (dC d3) i k d3.size = sideB (dA d) (dB d) (dC d) i k d.size ∧ sideB (dA d4) (dB d4) (dC d4) (rv n i) (rv n k) d4.size = sideB (dA d) (dB d) (dC d) i k d.size := by
  have hkn : k < n := by omega
  have hne : i ≠ k := by omega
  have hne' : rv n i ≠ rv n k := by unfold rv; omega
  refine ⟨bool_iff ?_, bool_iff ?_⟩
  · rw [side_joined hM3.mesh hT3 hne, side_joined hM.mesh hT hne]
    exact (joined_same hM.mesh h.inj hM.cor hL hM3.mesh.unshift hM3.cor hL3.unshift hf i k).symm
  · rw [side_joined hM4.mesh hT4 hne', side_joined hM.mesh hT hne, ← joined_rev hi hkn]
    exact (joined_same hM.mesh h.inj hM.cor hL hM4.mesh.unrev (hM4.cor.unrev hM4.mesh) (hL4.unrev hM4.mesh) hf i k).symm

set_option maxRecDepth 100000 in
set_option maxHeartbeats 8000000 in
theorem moved_any (a : Option Addr) (len cap : Nat) (sz x0 y0 : Int) (w : World) (wx : -9223372036854775808 ≤ x0 ∧ x0 ≤ 9223372036854775807) (wy : -9223372036854775808 ≤ y0 ∧ y0 ≤ 9223372036854775807)
    (hpts : Calls Tryz.prog 14 #[.slice a len cap, .int .i64 sz] w fun e w' => ∃ v N ps, e = .returned v ∧ Below w.heap.size w w' ∧ Sq N ps ∧ w'.ownsRow w.heap.size 35 2 v ps.length (cellsP ps)) :
    Calls Tryz.prog 6 #[.slice a len cap, .int .i64 sz, .int .i64 x0, .int .i64 y0] w fun e w' => e = .returned (.bool true) ∧ Below w.heap.size w w' := by
  obtain ⟨i0, hi0, hz0, hz1, hz2⟩ := info_parts Tryz.info35
  have C1 := hid (points_set hpts)
  clear hpts
  have K2 := hid (fun W => pick_any x0 500 wx (by omega) (by omega) W)
  have K3 := hid (fun W => pick_any y0 500 wy (by omega) (by omega) W)
  have p2 := pickI_bd x0 500 (by omega)
  have p3 := pickI_bd y0 500 (by omega)
  obtain ⟨x1, hx1⟩ : ∃ x1, x1 = pickI x0 500 := ⟨_, rfl⟩
  obtain ⟨y1, hy1⟩ : ∃ y1, y1 = pickI y0 500 := ⟨_, rfl⟩
  rw [← hx1] at K2 p2
  rw [← hy1] at K3 p3
  clear hx1 hy1 wx wy
  go_enter Tryz.func6, Tryz.ntmps6
  go_wp2_with fail
  refine C1.out.mono ?_
  rintro e w1 ⟨g, n0, cp, px, py, rfl, hb1, hcp, hS, hP⟩
  have HB1 := hid hb1
  have HS := hid hS
  have HP0 := hid hP
  have hn3 := hS.len
  have hn30 := hS.len'
  clear C1 hb1 hS hP
  by_cases h12 : 12 < n0
  case' pos =>
    have h12' : (12 : Int) < n0 := by omega
    have h12c : (12 : Int) ≤ cp := by omega
    go_wp2_with fail
    obtain ⟨n, hn⟩ : ∃ n : Nat, n = 12 := ⟨_, rfl⟩
    rw [show Value.slice (some ⟨g, 0, none⟩) 12 cp = Value.slice (some ⟨g, 0, none⟩) n cp by rw [hn], show Value.int IntKind.i64 12 = Value.int IntKind.i64 (n : Nat) by rw [hn]; rfl]
    have hle : n ≤ n0 := by omega
  case' neg =>
    have h12' : ¬ (12 : Int) < n0 := by omega
    go_wp2_with fail
    obtain ⟨n, hn⟩ : ∃ n : Nat, n = n0 := ⟨_, rfl⟩
    rw [← hn]
    have hle : n ≤ n0 := by omega
  all_goals
    have n3 : 3 ≤ n := by omega
    have n12 : n ≤ 12 := by omega
    have HF := hid (HS.out.few n3 n12 hle)
    have HP : Hid (Pts w1 g 0 n px py) := hid ⟨HP0.out.lt, fun i hi => HP0.out.x i (by omega), fun i hi => HP0.out.y i (by omega)⟩
    have hcn : n ≤ cp := by omega
    clear HP0 HS h12 h12' hn3 hn30 hcp hle hn
  all_goals
    -- the tail
    go_loopw [11, 12, 13] (fun fv bv j wr => ∃ i : Nat, i ≤ n ∧ j = .int .i64 i ∧ Hid (wr.ownsRow w1.heap.size 35 2 fv i (cellsP (prs (fun i => px i + (x1 - 250)) (fun i => py i + (y1 - 250)) i))) ∧ Hid (wr.ownsRow w1.heap.size 35 2 bv i (cellsP (prs (fun i => px (rv n i)) (fun i => py (rv n i)) i))) ∧ Hid (∀ q, fv.ownBlock = some q → bv.ownBlock ≠ some q) ∧ Hid (Below w1.heap.size w1 wr)) (fun _ _ j _ => n - (intOf j).toNat)
    case atStart => exact ⟨0, Nat.zero_le _, rfl, hid (World.ownsRow_nil _ _ _ _), hid (World.ownsRow_nil _ _ _ _), hid (fun q h => by cases h), hid (Below.refl _ _)⟩
    case round =>
      obtain ⟨i, hi, rfl, HO, HU, HD, HB⟩ := hrel
      by_cases hin : i < n
      · have hin' : (i : Int) < n := by omega
        have hpw := HP.out.below HB.out HP.out.lt
        have xi : wr.drew.cell? ⟨g, i * 2, none⟩ = some (.int .i64 (px i)) := by have := hpw.x i hin; rwa [Nat.zero_add] at this
        have yi : wr.drew.cell? ⟨g, i * 2 + 1, none⟩ = some (.int .i64 (py i)) := by have := hpw.y i hin; rwa [Nat.zero_add] at this
        have START := And.intro xi yi
        have q1 : (0 : Int) ≤ (i : Int) := by omega
        have bd := HF.out.bd i hin
        have c1 : IntKind.i64.wrap (px i + x1) = px i + x1 := by rw [IntKind.wrap_i64]; omega
        have c2 : IntKind.i64.wrap (px i + x1 - 250) = px i + x1 - 250 := by rw [IntKind.wrap_i64]; omega
        have c3 : IntKind.i64.wrap (py i + y1) = py i + y1 := by rw [IntKind.wrap_i64]; omega
        have c4 : IntKind.i64.wrap (py i + y1 - 250) = py i + y1 - 250 := by rw [IntKind.wrap_i64]; omega
        obtain ⟨r, hr⟩ : ∃ r, r = rv n i := ⟨_, rfl⟩
        have hrn : r < n := by rw [hr]; exact rv_lt hin
        have e5 : (n : Int) - 1 - (i : Int) = (r : Nat) := by rw [hr]; unfold rv; omega
        have xr : wr.drew.cell? ⟨g, r * 2, none⟩ = some (.int .i64 (px r)) := by have := hpw.x r hrn; rwa [Nat.zero_add] at this
        have yr : wr.drew.cell? ⟨g, r * 2 + 1, none⟩ = some (.int .i64 (py r)) := by have := hpw.y r hrn; rwa [Nat.zero_add] at this
        have hrn' : (r : Int) < n := by omega
        have q2 : (0 : Int) ≤ (r : Int) := by omega
        have HRV := hid hr
        have c5 : IntKind.i64.wrap ((n : Int) - 1) = n - 1 := by rw [IntKind.wrap_i64]; omega
        have c6 : IntKind.i64.wrap ((n : Int) - 1 - (i : Int)) = (r : Nat) := by rw [IntKind.wrap_i64]; omega
        clear hpw xi yi hr
        go_wp2_with fail
        refine wp_region_held_drew (S := (fun W => W.cell? ⟨g, i * 2, none⟩ = some (.int .i64 (px i)) ∧ W.cell? ⟨g, i * 2 + 1, none⟩ = some (.int .i64 (py i)))) (by kernel_rfl) START (fun hHeld => ?_)
        clear hHeld
        refine wpAnyH_take (i := 0) (v := u11) rfl (by kernel_rfl) (by kernel_rfl) (by kernel_rfl) (fun _ _ _ h => h) (Or.inl ⟨by kernel_rfl, ?_⟩) (by assumption) ?_
        · intro W hSw
          try dsimp only at hSw
          go_simp
        try simp only [Act.put, List.setIfInBounds_toArray, List.set_cons_zero, List.set_cons_succ]
        refine wpAnyH_take (i := 1) (v := .slice (some ⟨g, 0, none⟩) n cp) rfl (by kernel_rfl) (by kernel_rfl) (by kernel_rfl) (fun _ _ _ h => h) (Or.inl ⟨by kernel_rfl, ?_⟩) (by assumption) ?_
        · intro W hSw
          try dsimp only at hSw
          go_simp
        try simp only [Act.put, List.setIfInBounds_toArray, List.set_cons_zero, List.set_cons_succ]
        refine wpAnyH_take (i := 2) (v := .int .i64 (i : Nat)) rfl (by kernel_rfl) (by kernel_rfl) (by kernel_rfl) (fun _ _ _ h => h) (Or.inl ⟨by kernel_rfl, ?_⟩) (by assumption) ?_
        · intro W hSw
          try dsimp only at hSw
          go_simp
        try simp only [Act.put, List.setIfInBounds_toArray, List.set_cons_zero, List.set_cons_succ]
        refine wpAnyH_take (i := 3) (v := .pointer (some ⟨g, i * 2, none⟩)) rfl (by kernel_rfl) (by kernel_rfl) (by kernel_rfl) (fun _ _ _ h => h) (Or.inl ⟨by kernel_rfl, ?_⟩) (by assumption) ?_
        · intro W hSw
          try dsimp only at hSw
          go_simp
        try simp only [Act.put, List.setIfInBounds_toArray, List.set_cons_zero, List.set_cons_succ]
        refine wpAnyH_take (i := 4) (v := .pointer (some ⟨g, i * 2, none⟩)) rfl (by kernel_rfl) (by kernel_rfl) (by kernel_rfl) (fun _ _ _ h => h) (Or.inl ⟨by kernel_rfl, ?_⟩) (by assumption) ?_
        · intro W hSw
          try dsimp only at hSw
          go_simp
        try simp only [Act.put, List.setIfInBounds_toArray, List.set_cons_zero, List.set_cons_succ]
        refine wpAnyH_take (i := 5) (v := .int .i64 (px i)) rfl (by kernel_rfl) (by kernel_rfl) (by kernel_rfl) (fun _ _ _ h => h) (Or.inl ⟨by kernel_rfl, ?_⟩) (by assumption) ?_
        · intro W hSw
          try dsimp only at hSw
          go_simp
        try simp only [Act.put, List.setIfInBounds_toArray, List.set_cons_zero, List.set_cons_succ]
        refine wpAnyH_take (i := 6) (v := .int .i64 x0) rfl (by kernel_rfl) (by kernel_rfl) (by kernel_rfl) (fun _ _ _ h => h) (Or.inl ⟨by kernel_rfl, ?_⟩) (by assumption) ?_
        · intro W hSw
          try dsimp only at hSw
          go_simp
        try simp only [Act.put, List.setIfInBounds_toArray, List.set_cons_zero, List.set_cons_succ]
        refine wpAnyH_take (i := 10) (v := .slice (some ⟨g, 0, none⟩) n cp) rfl (by kernel_rfl) (by kernel_rfl) (by kernel_rfl) (fun _ _ _ h => h) (Or.inl ⟨by kernel_rfl, ?_⟩) (by assumption) ?_
        · intro W hSw
          try dsimp only at hSw
          go_simp
        try simp only [Act.put, List.setIfInBounds_toArray, List.set_cons_zero, List.set_cons_succ]
        refine wpAnyH_take (i := 11) (v := .int .i64 (i : Nat)) rfl (by kernel_rfl) (by kernel_rfl) (by kernel_rfl) (fun _ _ _ h => h) (Or.inl ⟨by kernel_rfl, ?_⟩) (by assumption) ?_
        · intro W hSw
          try dsimp only at hSw
          go_simp
        try simp only [Act.put, List.setIfInBounds_toArray, List.set_cons_zero, List.set_cons_succ]
        refine wpAnyH_take (i := 12) (v := .pointer (some ⟨g, i * 2, none⟩)) rfl (by kernel_rfl) (by kernel_rfl) (by kernel_rfl) (fun _ _ _ h => h) (Or.inl ⟨by kernel_rfl, ?_⟩) (by assumption) ?_
        · intro W hSw
          try dsimp only at hSw
          go_simp
        try simp only [Act.put, List.setIfInBounds_toArray, List.set_cons_zero, List.set_cons_succ]
        refine wpAnyH_take (i := 13) (v := .pointer (some ⟨g, i * 2 + 1, none⟩)) rfl (by kernel_rfl) (by kernel_rfl) (by kernel_rfl) (fun _ _ _ h => h) (Or.inl ⟨by kernel_rfl, ?_⟩) (by assumption) ?_
        · intro W hSw
          try dsimp only at hSw
          go_simp
        try simp only [Act.put, List.setIfInBounds_toArray, List.set_cons_zero, List.set_cons_succ]
        refine wpAnyH_take (i := 14) (v := .int .i64 (py i)) rfl (by kernel_rfl) (by kernel_rfl) (by kernel_rfl) (fun _ _ _ h => h) (Or.inl ⟨by kernel_rfl, ?_⟩) (by assumption) ?_
        · intro W hSw
          try dsimp only at hSw
          go_simp
        try simp only [Act.put, List.setIfInBounds_toArray, List.set_cons_zero, List.set_cons_succ]
        refine wpAnyH_take (i := 15) (v := .int .i64 y0) rfl (by kernel_rfl) (by kernel_rfl) (by kernel_rfl) (fun _ _ _ h => h) (Or.inl ⟨by kernel_rfl, ?_⟩) (by assumption) ?_
        · intro W hSw
          try dsimp only at hSw
          go_simp
        try simp only [Act.put, List.setIfInBounds_toArray, List.set_cons_zero, List.set_cons_succ]
        refine wpAnyH_ready (rs := [7]) (by kernel_rfl) (by simp) ?_
        refine AllReadyH.cons rfl (fun K hK => ?_) AllReadyH.nil
        go_simp
        refine (K2.out _).mono ?_
        rintro e w6 ⟨rfl, he6⟩
        subst he6
        refine hK.out _ _ (by assumption) (fun hHeld => ?_)
        clear hK K hHeld
        try simp only [Act.put, List.setIfInBounds_toArray, List.set_cons_zero, List.set_cons_succ]
        refine wpAnyH_take (i := 8) (v := .int .i64 (px i + x1)) rfl (by kernel_rfl) (by kernel_rfl) (by kernel_rfl) (fun _ _ _ h => h) (Or.inl ⟨by kernel_rfl, ?_⟩) (by assumption) ?_
        · intro W hSw
          try dsimp only at hSw
          go_simp
        try simp only [Act.put, List.setIfInBounds_toArray, List.set_cons_zero, List.set_cons_succ]
        refine wpAnyH_take (i := 9) (v := .int .i64 (px i + x1 - 250)) rfl (by kernel_rfl) (by kernel_rfl) (by kernel_rfl) (fun _ _ _ h => h) (Or.inl ⟨by kernel_rfl, ?_⟩) (by assumption) ?_
        · intro W hSw
          try dsimp only at hSw
          go_simp
        try simp only [Act.put, List.setIfInBounds_toArray, List.set_cons_zero, List.set_cons_succ]
        refine wpAnyH_ready (rs := [16]) (by kernel_rfl) (by simp) ?_
        refine AllReadyH.cons rfl (fun K hK => ?_) AllReadyH.nil
        go_simp
        refine (K3.out _).mono ?_
        rintro e w6 ⟨rfl, he6⟩
        subst he6
        refine hK.out _ _ (by assumption) (fun hHeld => ?_)
        clear hK K hHeld
        try simp only [Act.put, List.setIfInBounds_toArray, List.set_cons_zero, List.set_cons_succ]
        refine wpAnyH_take (i := 17) (v := .int .i64 (py i + y1)) rfl (by kernel_rfl) (by kernel_rfl) (by kernel_rfl) (fun _ _ _ h => h) (Or.inl ⟨by kernel_rfl, ?_⟩) (by assumption) ?_
        · intro W hSw
          try dsimp only at hSw
          go_simp
        try simp only [Act.put, List.setIfInBounds_toArray, List.set_cons_zero, List.set_cons_succ]
        refine wpAnyH_take (i := 18) (v := .int .i64 (py i + y1 - 250)) rfl (by kernel_rfl) (by kernel_rfl) (by kernel_rfl) (fun _ _ _ h => h) (Or.inl ⟨by kernel_rfl, ?_⟩) (by assumption) ?_
        · intro W hSw
          try dsimp only at hSw
          go_simp
        try simp only [Act.put, List.setIfInBounds_toArray, List.set_cons_zero, List.set_cons_succ]
        refine wpAnyH_take (i := 19) (v := .agg #[.int .i64 (px i + x1 - 250), .int .i64 (py i + y1 - 250)]) rfl (by kernel_rfl) (by kernel_rfl) (by kernel_rfl) (fun _ _ _ h => h) (Or.inl ⟨by kernel_rfl, ?_⟩) (by assumption) ?_
        · intro W hSw
          try dsimp only at hSw
          go_simp
        try simp only [Act.put, List.setIfInBounds_toArray, List.set_cons_zero, List.set_cons_succ]
        have S2 := And.intro (cell_new (o := (.cells #[.int .i64 (px i + x1 - 250), .int .i64 (py i + y1 - 250)] 35)) START.1) (cell_new (o := (.cells #[.int .i64 (px i + x1 - 250), .int .i64 (py i + y1 - 250)] 35)) START.2)
        refine wpAnyH_ready (rs := [20]) (by kernel_rfl) (by simp) ?_
        refine AllReadyH.cons rfl (fun K hK => ?_) AllReadyH.nil
        go_simp
        refine hK.out _ _ (by assumption) (fun hHeld => ?_)
        clear hK K hHeld
        refine wpAnyH_ready (rs := [21]) (by kernel_rfl) (by simp) ?_
        refine AllReadyH.cons rfl (fun K hK => ?_) AllReadyH.nil
        refine step_append_lies _ (by rfl) (.tmp 42) (.tmp 62) 26 (by rfl) w1.heap.size 35 i0 (.agg #[.int .i64 0, .int .i64 0]) 2 16 Tryz.underlying26 hi0 hz0 hz1 hz2 (by rfl) (by decide) u11 i _ (by rfl) (HO.out.alloc _) ⟨wr.heap.size, 0, none⟩ 1 1 [.int .i64 (px i + x1 - 250), .int .i64 (py i + y1 - 250)] (by rfl) (by rfl) (new_two wr.drew _ _) (one_two _ _) (by decide) (by unfold maxLen; omega) (by omega) (by have := HB.out.size; show _ ≤ (wr.alloc _).heap.size; simp; omega) (wr.heap.size + 1) (by show (wr.alloc _).heap.size = _; simp) ?_
        intro gi ci w9 hown9 hgrow9 hat hlt9
        have F1 := hid (far_step (W0 := wr.drew.alloc (.cells #[.int .i64 (px i + x1 - 250), .int .i64 (py i + y1 - 250)] 35)) (HO.out.alloc _) (HU.out.alloc _) HD.out (HB.out.drew.alloc HB.out.size _) HP.out.lt (px i + x1 - 250) (py i + y1 - 250) hown9 hgrow9 (by rw [show (wr.drew.alloc (.cells #[.int .i64 (px i + x1 - 250), .int .i64 (py i + y1 - 250)] 35)).heap.size = wr.heap.size + 1 by show (wr.alloc _).heap.size = _; simp]; exact hat))
        have S9 := And.intro (F1.out.2.2.2.1 _ S2.1) (F1.out.2.2.2.1 _ S2.2)
        have xr9 := F1.out.2.2.2.1 _ (cell_new xr)
        have yr9 := F1.out.2.2.2.1 _ (cell_new yr)
        refine hK.out _ _ S9 (fun hHeld => ?_)
        clear hK K hHeld hown9 hgrow9 hat hlt9 S2 START xr yr
        try simp only [Act.put, List.setIfInBounds_toArray, List.set_cons_zero, List.set_cons_succ]
        refine wpAnyH_ready (rs := [22]) (by kernel_rfl) (by simp) ?_
        refine AllReadyH.cons rfl (fun K hK => ?_) AllReadyH.nil
        go_simp
        refine hK.out _ _ (by assumption) (fun hHeld => ?_)
        clear hK K hHeld
        refine wpAnyH_done (by kernel_rfl) ?_ _
        clear S9
        go_wp2_with (at_builtin; go_must (refine wpList_append_pts _ rfl _ _ 26 rfl w1.heap.size 35 i0 (.agg #[.int .i64 0, .int .i64 0]) 2 16 Tryz.underlying26 hi0 hz0 hz1 hz2 rfl (by decide) u12 i _ rfl (F1.out.2.1.alloc _) ⟨w9.heap.size, 0, none⟩ 1 1 [.int .i64 (px r), .int .i64 (py r)] rfl rfl (new_two w9 _ _) (one_two _ _) (by decide) (by unfold maxLen; omega) (by omega) (by have := F1.out.2.2.2.2.size; simp; omega) (w9.heap.size + 1) (by simp) ?_))
        intro gj cj w10 hown10 hgrow10 hat10 hlt10
        have F2 := hid (far_step (F1.out.2.1.alloc _) (F1.out.1.alloc _) (fun q h h' => F1.out.2.2.1 q h' h) (F1.out.2.2.2.2.alloc F1.out.2.2.2.2.size _) HP.out.lt (px r) (py r) hown10 hgrow10 (by simpa using hat10))
        clear hown10 hgrow10 hat10 hlt10 xr9 yr9
        have FIN : Hid (w10.ownsRow w1.heap.size 35 2 (.slice (some ⟨gi, 0, none⟩) (i + 1) ci) (i + 1) (cellsP (prs (fun i => px i + (x1 - 250)) (fun i => py i + (y1 - 250)) (i + 1))) ∧ w10.ownsRow w1.heap.size 35 2 (.slice (some ⟨gj, 0, none⟩) (i + 1) cj) (i + 1) (cellsP (prs (fun i => px (rv n i)) (fun i => py (rv n i)) (i + 1)))) := hid ⟨by
            rw [prs_snoc, cellsP_snoc]
            have := F2.out.2.1
            rw [show px i + x1 - 250 = px i + (x1 - 250) by omega, show py i + y1 - 250 = py i + (y1 - 250) by omega] at this
            exact this, by
            rw [prs_snoc, cellsP_snoc, ← HRV.out]
            exact F2.out.1⟩
        go_wp2_with fail
        go_roundw
        case rel => exact ⟨i + 1, by omega, by go_num, hid FIN.out.1, hid FIN.out.2, hid (fun q h h' => F2.out.2.2.1 q h' h), hid F2.out.2.2.2.2⟩
        case measure => simp [intOf]; omega
      · have hii : n = i := by omega
        subst hii
        obtain ⟨gf, cf, e1, hcf, PF⟩ := prs_pts HO.out (by omega)
        obtain ⟨gk, ck, e2, hck, PK⟩ := prs_pts HU.out (by omega)
        subst e1 e2
        have HPF := hid PF
        have HPK := hid PK
        have HPL := hid (HP.out.below HB.out HP.out.lt)
        have X : -250 ≤ x1 - 250 ∧ x1 - 250 ≤ 249 := by omega
        have Y : -250 ≤ y1 - 250 ∧ y1 - 250 ≤ 249 := by omega
        clear PF PK HO HU HD K2 K3
        have C2 := hid (tri_few n3 (by omega) HF.out.ref g cp wr HPL.out hcn)
        go_wp2_with fail
        refine C2.out.mono ?_
        rintro e w2 ⟨hb2, g2, cp2, d2, M2, hs2, rfl, hd2, hp2, hTr2, hT2, hM2, hL2⟩
        have HB2 := hid hb2
        have HTR2 := hid hTr2
        have HT2 := hid hT2
        have HM2 := hid hM2
        have HL2 := hid hL2
        clear C2 hb2 hTr2 hT2 hM2 hL2
        have C3 := hid (tri_few n3 (by omega) (HF.out.ref_far X Y) gf cf w2 (HPF.out.below HB2.out HPF.out.lt) hcf)
        go_wp2_with fail
        refine C3.out.mono ?_
        rintro e w3 ⟨hb3, g3, cp3, d3, M3, hs3, rfl, hd3, hp3, hTr3, hT3, hM3, hL3⟩
        have HB3 := hid (HB2.out.trans (hb3.mono HB2.out.size))
        have HTR23 := hid (HTR2.out.below hb3)
        have HTR3 := hid hTr3
        have HT3 := hid hT3
        have HM3 := hid hM3
        have HL3 := hid hL3
        clear C3 hb3 hTr3 hT3 hM3 hL3 HTR2 HB2
        have C4 := hid (tri_few n3 (by omega) HF.out.ref_back gk ck w3 (HPK.out.below HB3.out HPK.out.lt) hck)
        go_wp2_with fail
        refine C4.out.mono ?_
        rintro e w4 ⟨hb4, g4, cp4, d4, M4, hs4, rfl, hd4, hp4, hTr4, hT4, hM4, hL4⟩
        have HB4 := hid (HB3.out.trans (hb4.mono HB3.out.size))
        have HTR24 := hid (HTR23.out.below hb4)
        have HTR34 := hid (HTR3.out.below hb4)
        have HTR4 := hid hTr4
        have HT4 := hid hT4
        have HM4 := hid hM4
        have HL4 := hid hL4
        clear C4 hb4 hTr4 hT4 hM4 hL4 HTR23 HTR3 HB3
        have LEN := moved_len HF.out X Y HM2.out HT2.out HM3.out HT3.out HM4.out HT4.out
        have S2 := hid (fun W (hW : Below w4.heap.size w4 W) => sane_few HF.out.bds HT2.out HM2.out g cp g2 cp2 W (HPL.out.below (HB4.out.trans (hW.mono HB4.out.size)) HPL.out.lt) (HTR24.out.below hW) hd2)
        have S3 := hid (fun W (hW : Below w4.heap.size w4 W) => sane_few (HF.out.bds_far X Y) HT3.out HM3.out gf cf g3 cp3 W (HPF.out.below (HB4.out.trans (hW.mono HB4.out.size)) HPF.out.lt) (HTR34.out.below hW) hd3)
        have S4 := hid (fun W (hW : Below w4.heap.size w4 W) => sane_few HF.out.bds_back HT4.out HM4.out gk ck g4 cp4 W (HPK.out.below (HB4.out.trans (hW.mono HB4.out.size)) HPK.out.lt) (HTR4.out.below hW) hd4)
        have Z2 := hid (fun a b W (hW : Below w4.heap.size w4 W) => side_any n g2 0 d2.size cp2 (dz d2) (dA d2) (dB d2) (dC d2) a b W (HTR24.out.below hW) (by omega) (HT2.out.row3 HM2.out.mesh))
        have Z3 := hid (fun a b W (hW : Below w4.heap.size w4 W) => side_any n g3 0 d3.size cp3 (dz d3) (dA d3) (dB d3) (dC d3) a b W (HTR34.out.below hW) (by omega) (HT3.out.row3 HM3.out.mesh))
        have Z4 := hid (fun a b W (hW : Below w4.heap.size w4 W) => side_any n g4 0 d4.size cp4 (dz d4) (dA d4) (dB d4) (dC d4) a b W (HTR4.out.below hW) (by omega) (HT4.out.row3 HM4.out.mesh))
        have UQ := hid (fun W (hW : Below w4.heap.size w4 W) => unique_any px py n g cp W (HPL.out.below (HB4.out.trans (hW.mono HB4.out.size)) HPL.out.lt) (by omega) HF.out.bds)
        have EQ := hid (fun (hf : Geo.Free px py n) a b (ha : a < n) (hb : b < a) => moved_eq HF.out hf HM2.out HT2.out HL2.out HM3.out HT3.out HL3.out HM4.out HT4.out HL4.out ha hb)
        rw [LEN.1] at S3 Z3 EQ ⊢
        rw [LEN.2] at S4 Z4 EQ ⊢
        have FB := hid (HB1.out.trans ((HB.out.trans (HB4.out.mono HB.out.size)).mono HB1.out.size))
        clear LEN HTR24 HTR34 HTR4 HT2 HT3 HT4 HM2 HM3 HM4 HL2 HL3 HL4 HPF HPK HPL hd3 hd4 hp3 hp4 X Y HB4 HB HB1
        obtain ⟨m, hm⟩ : ∃ m, m = d2.size := ⟨_, rfl⟩
        rw [← hm] at S2 S3 S4 Z2 Z3 Z4 EQ hd2 hp2 ⊢
        clear hm
        have dm : ((m : Int) == 0) = false := by simp; omega
        have dmm : ((m : Int) != (m : Int)) = false := by simp
        go_wp2_with fail
        refine (S2.out w4 (Below.refl _ _)).mono ?_
        rintro e w5 ⟨rfl, hb5⟩
        have HB5 := hid hb5
        clear hb5 S2
        go_wp2_with fail
        refine (S3.out w5 HB5.out).mono ?_
        rintro e w6 ⟨rfl, hb6⟩
        have HB6 := hid (HB5.out.trans (hb6.mono HB5.out.size))
        clear hb6 S3 HB5
        go_wp2_with fail
        refine (S4.out w6 HB6.out).mono ?_
        rintro e w7 ⟨rfl, hb7⟩
        have HB7 := hid (HB6.out.trans (hb7.mono HB6.out.size))
        clear hb7 S4 HB6
        go_wp2_with fail
        refine (UQ.out w7 HB7.out).mono ?_
        rintro e w8 ⟨⟨b, rfl, hfree⟩, hb8⟩
        have HB8 := hid (HB7.out.trans (hb8.mono HB7.out.size))
        have HFR := hid hfree
        clear hb8 UQ HB7 hfree
        have fin : Hid (∀ W, Below w4.heap.size w4 W → Below w.heap.size w W) := hid (fun W hW => FB.out.trans (hW.mono FB.out.size))
        cases b with
        | false =>
          go_wp2_with fail
          go_loopw [22] (fun i wr => i = .int .i64 0 ∧ Hid (Below w4.heap.size w4 wr)) (fun _ _ => 0)
          case atStart => exact ⟨rfl, HB8⟩
          case round =>
            obtain ⟨rfl, HB⟩ := hrel
            go_wp2_with fail
            go_ret
            exact ⟨rfl, fin.out _ HB.out⟩
        | true =>
          have HQ := hid (EQ.out (HFR.out rfl))
          clear EQ HFR
          go_wp2_with fail
          go_loopw [22] (fun i wr => ∃ i' : Nat, i' ≤ n ∧ i = .int .i64 i' ∧ Hid (Below w4.heap.size w4 wr)) (fun i _ => n - (intOf i).toNat)
          case atStart => exact ⟨0, Nat.zero_le _, rfl, HB8⟩
          case round =>
            obtain ⟨i, hi, rfl, HB⟩ := hrel
            by_cases hin : i < n
            · have hin' : (i : Int) < n := by omega
              obtain ⟨W0, rfl⟩ : ∃ W0, W0 = wr := ⟨wr, rfl⟩
              go_wp2_with fail
              go_loopw [23] (fun k wr => ∃ k' : Nat, k' ≤ i ∧ k = .int .i64 k' ∧ Hid (Below w4.heap.size w4 wr)) (fun k _ => i - (intOf k).toNat)
              case atStart => exact ⟨0, Nat.zero_le _, rfl, HB⟩
              case round =>
                clear HB
                obtain ⟨k, hk, rfl, HB⟩ := hrel
                by_cases hki : k < i
                · have hki' : (k : Int) < i := by omega
                  have Q := HQ.out i k hin hki
                  obtain ⟨sv, hsv⟩ : ∃ sv, sv = sideB (dA d2) (dB d2) (dC d2) i k m := ⟨_, rfl⟩
                  have z2 := Z2.out i k
                  have z3 := Z3.out i k
                  have z4 := Z4.out (rv n i) (rv n k)
                  rw [Q.1] at z3
                  rw [Q.2] at z4
                  rw [← hsv] at z2 z3 z4
                  clear hsv Q
                  obtain ⟨r, hr⟩ : ∃ r, r = rv n i := ⟨_, rfl⟩
                  obtain ⟨q, hq⟩ : ∃ q, q = rv n k := ⟨_, rfl⟩
                  rw [← hr, ← hq] at z4
                  have er : (n : Int) - 1 - (i : Int) = (r : Nat) := by rw [hr]; unfold rv; omega
                  have eq : (n : Int) - 1 - (k : Int) = (q : Nat) := by rw [hq]; unfold rv; omega
                  have c5 : IntKind.i64.wrap ((n : Int) - 1) = n - 1 := by rw [IntKind.wrap_i64]; omega
                  have c6 : IntKind.i64.wrap ((n : Int) - 1 - (i : Int)) = (r : Nat) := by rw [IntKind.wrap_i64]; omega
                  have c7 : IntKind.i64.wrap ((n : Int) - 1 - (k : Int)) = (q : Nat) := by rw [IntKind.wrap_i64]; omega
                  have ZZ2 := hid z2
                  have ZZ3 := hid z3
                  have ZZ4 := hid z4
                  clear z2 z3 z4 hr hq
                  go_wp2_with fail
                  refine (ZZ2.out _ HB.out).mono ?_
                  rintro e w9 ⟨rfl, hb9⟩
                  have HB9 := hid (HB.out.trans (hb9.mono HB.out.size))
                  clear hb9
                  go_wp2_with fail
                  refine (ZZ3.out _ HB9.out).mono ?_
                  rintro e w10 ⟨rfl, hb10⟩
                  have HB10 := hid (HB9.out.trans (hb10.mono HB9.out.size))
                  clear hb10
                  go_wp2_with fail
                  refine (ZZ4.out _ HB10.out).mono ?_
                  rintro e w11 ⟨rfl, hb11⟩
                  have HB11 := hid (HB10.out.trans (hb11.mono HB10.out.size))
                  clear hb11
                  have dsv : (sv != sv) = false := by simp
                  go_wp2_with fail
                  go_roundw
                  case rel => exact ⟨k + 1, by omega, by go_num, HB11⟩
                  case measure => simp [intOf]; omega
                · have hkk : i = k := by omega
                  subst hkk
                  go_wp2_with fail
                  go_roundw
                  case rel => exact ⟨i + 1, by omega, by go_num, HB⟩
                  case measure => simp [intOf]; omega
            · have hii : n = i := by omega
              subst hii
              go_wp2_with fail
              go_ret
              exact ⟨rfl, fin.out _ HB.out⟩
end Go.Proofs.YtdbebbbceeopaaaGreat

set_option linter.unusedSimpArgs false
namespace Go.Proofs.YtdbebbbceeopaaaGreat
open Go.RowKit Go.Maps
open Flt (Is)

/-- Is something in the way of the line of this number? -/
def wayB (px py : Nat → Int) (n : Nat) (xs : List (Nat × Nat)) (i : Nat) : Prop := (∃ p, p < n ∧ betwB px py (xs.getD i (0, 0)).1 (xs.getD i (0, 0)).2 p = true) ∨ ∃ j, j < i ∧ crossB px py (xs.getD i (0, 0)).1 (xs.getD i (0, 0)).2 (xs.getD j (0, 0)).1 (xs.getD j (0, 0)).2 = true

/-- Does a line cross one ahead of it? -/
def crF (px py : Nat → Int) (xs : List (Nat × Nat)) (u v j : Nat) : Bool := crossB px py u v (xs.getD j (0, 0)).1 (xs.getD j (0, 0)).2

/-- What isInTheWay answers. -/
def WayR (px py : Nat → Int) (n : Nat) (xs : List (Nat × Nat)) (e : Ending) : Prop := ∃ b : Bool, e = .returned (.bool b) ∧ (b = true ↔ ∃ i, i < xs.length ∧ wayB px py n xs i)

set_option maxRecDepth 100000 in
set_option maxHeartbeats 8000000 in
theorem inWay_any (pb po n cap lcap : Nat) (px py : Nat → Int) (la : Option Addr) (xs : List (Nat × Nat)) (w : World) (hn : n ≤ 40) (hp : Plc w pb po n px py) (hl : Lns w la xs) (hk : xs.length ≤ 100) (hcap : xs.length ≤ lcap) (hx : ∀ x ∈ xs, x.1 < n ∧ x.2 < n) :
    Calls Tryz.prog 70 #[.slice (some ⟨pb, po, none⟩) n cap, .slice la xs.length lcap] w fun e w' => WayR px py n xs e ∧ Below w.heap.size w w' := by
  obtain ⟨W0, hW0⟩ : ∃ W0 : World, W0 = w.alloc (.cells #[.slice (some ⟨pb, po, none⟩) n cap] 68) := ⟨_, rfl⟩
  have B0 : Hid (Below w.heap.size w W0) := hid (by rw [hW0]; exact (Below.refl _ _).alloc (Nat.le_refl _) _)
  have P0 : W0.cell? ⟨w.heap.size, 0, none⟩ = some (.slice (some ⟨pb, po, none⟩) n cap) := by rw [hW0]; exact World.cell?_alloc_at _ _ _ _ rfl
  have HP := hid (hp.below B0.out hp.lt)
  have HL := hid (hl.below B0.out)
  have HX := hid hx
  have HP0 := hid P0
  have hW0s : Hid (w.heap.size < W0.heap.size) := hid (World.block_lt_of_cell? W0 _ P0)
  obtain ⟨k, hkk⟩ : ∃ k, k = xs.length := ⟨_, rfl⟩
  have HK := hid hkk
  rw [← hkk] at hk hcap ⊢
  clear hp hl hx hkk P0
  go_enter Tryz.func70, Tryz.ntmps70
  go_wp2_with fail
  rw [← hW0]
  clear hW0
  obtain ⟨bP, hbP⟩ : ∃ bP, bP = w.heap.size := ⟨_, rfl⟩
  rw [← hbP] at HP0 hW0s ⊢
  have HBP := hid hbP
  clear hbP
  go_loopw [11] (fun ix wr => ∃ i : Nat, i ≤ k ∧ ix = .int .i64 i ∧ Hid (∀ r, r < i → ¬ wayB px py n xs r) ∧ Hid (Below W0.heap.size W0 wr)) (fun ix _ => k - (intOf ix).toNat)
  case atStart => exact ⟨0, Nat.zero_le _, rfl, hid (fun r h => by omega), hid (Below.refl _ _)⟩
  case round =>
    obtain ⟨i, hi, rfl, HJ, HB⟩ := hrel
    by_cases hik : i < k
    · have hik' : (i : Int) < k := by omega
      have hix : i < xs.length := by rw [← HK.out]; exact hik
      obtain ⟨lg, lo, hla, hlg, hlc⟩ : ∃ lg lo, la = some ⟨lg, lo, none⟩ ∧ lg < W0.heap.size ∧ (W0.cell? ⟨lg, lo + i * 2, none⟩ = some (.int .i64 (xs[i].1 : Nat)) ∧ W0.cell? ⟨lg, lo + i * 2 + 1, none⟩ = some (.int .i64 (xs[i].2 : Nat))) := by
        rcases HL.out with h | ⟨g, o, e, h1, h2⟩
        · rw [h] at hix; simp at hix
        · exact ⟨g, o, e, h1, h2 i hix⟩
      subst hla
      have xc := (HB.out.cell (p := ⟨lg, lo + i * 2, none⟩) hlg).trans hlc.1
      have yc := (HB.out.cell (p := ⟨lg, lo + i * 2 + 1, none⟩) hlg).trans hlc.2
      have gd : xs.getD i (0, 0) = xs[i] := by simp [List.getD_eq_getElem?_getD, hix]
      have huv := HX.out xs[i] (List.getElem_mem hix)
      have HWB : Hid (wayB px py n xs i ↔ (∃ p, p < n ∧ betwB px py xs[i].1 xs[i].2 p = true) ∨ ∃ j, j < i ∧ crossB px py xs[i].1 xs[i].2 (xs.getD j (0, 0)).1 (xs.getD j (0, 0)).2 = true) := hid (by unfold wayB; rw [gd])
      obtain ⟨u, hu⟩ : ∃ u, u = xs[i].1 := ⟨_, rfl⟩
      obtain ⟨v, hv⟩ : ∃ v, v = xs[i].2 := ⟨_, rfl⟩
      rw [← hu] at xc huv HWB
      rw [← hv] at yc huv HWB
      clear hu hv hlc gd
      obtain ⟨W1, hW1⟩ : ∃ W1, W1 = wr.alloc (.cells #[.int .i64 (u : Nat), .int .i64 (v : Nat)] 54) := ⟨_, rfl⟩
      have b1 : Below wr.heap.size wr W1 := by rw [hW1]; exact (Below.refl _ _).alloc (Nat.le_refl _) _
      have S1 : W1.heap.size = wr.heap.size + 1 := by rw [hW1]; simp
      have HB1 := hid (HB.out.trans (b1.mono HB.out.size))
      have HPW := HP.out.below HB1.out HP.out.lt
      obtain ⟨ri, ii, ci, Ii, Ii'⟩ := HPW.cell u huv.1
      obtain ⟨rj, ij, cj, Ij, Ij'⟩ := HPW.cell v huv.2
      have cP := (HB1.out.cell (p := ⟨bP, 0, none⟩) hW0s.out).trans HP0.out
      have x0 : W1.cell? ⟨wr.heap.size, 0, none⟩ = some (.int .i64 (u : Nat)) := by rw [hW1]; exact World.cell?_alloc_at _ _ _ _ rfl
      have x1 : W1.cell? ⟨wr.heap.size, 1, none⟩ = some (.int .i64 (v : Nat)) := by rw [hW1]; exact World.cell?_alloc_at _ _ _ _ rfl
      have l1 := World.block_lt_of_cell? W1 _ cP
      have l2 := World.block_lt_of_cell? W1 _ ci
      have l3 := World.block_lt_of_cell? W1 _ x0
      have gu : (u : Int) < n := by omega
      have gv : (v : Int) < n := by omega
      have gu0 : (0 : Int) ≤ u := by omega
      have gv0 : (0 : Int) ≤ v := by omega
      have q1 : (0 : Int) ≤ (i : Int) := by omega
      have t0 : ((W1.alloc (.cells #[.complex .f64 0 0] 94)).alloc (.cells #[.complex .f64 0 0] 94)).cell? ⟨wr.heap.size + 1, 0, none⟩ = some (.complex .f64 0 0) := by
        rw [World.cell?_alloc_past _ _ _ (by simp; omega), World.cell?_alloc_at _ _ _ _ (by omega)]; rfl
      have t1 : ((W1.alloc (.cells #[.complex .f64 0 0] 94)).alloc (.cells #[.complex .f64 0 0] 94)).cell? ⟨wr.heap.size + 1 + 1, 0, none⟩ = some (.complex .f64 0 0) := by
        rw [World.cell?_alloc_at _ _ _ _ (by simp; omega)]; rfl
      have f0 : ((W1.alloc (.cells #[.complex .f64 0 0] 94)).alloc (.cells #[.complex .f64 0 0] 94)).frozen? ⟨wr.heap.size + 1, 0, none⟩ = false := by
        rw [World.frozen?_alloc_past _ _ _ (by simp; omega), World.frozen?_alloc_at _ _ _ _ (by omega)]
      have f1 : ((W1.alloc (.cells #[.complex .f64 0 0] 94)).alloc (.cells #[.complex .f64 0 0] 94)).frozen? ⟨wr.heap.size + 1 + 1, 0, none⟩ = false := by
        rw [World.frozen?_alloc_at _ _ _ _ (by simp; omega)]
      have s0 : ∀ u, (((W1.alloc (.cells #[.complex .f64 0 0] 94)).alloc (.cells #[.complex .f64 0 0] 94)).drew.setCell ⟨wr.heap.size + 1, 0, none⟩ u).cell? ⟨wr.heap.size + 1 + 1, 0, none⟩ = some (.complex .f64 0 0) := fun u => by rw [World.cell?_setCell_far _ _ _ _ (by show _ + 1 ≠ _ + 1 + 1; omega)]; exact t1
      have s1 : ∀ u, (((W1.alloc (.cells #[.complex .f64 0 0] 94)).alloc (.cells #[.complex .f64 0 0] 94)).drew.setCell ⟨wr.heap.size + 1 + 1, 0, none⟩ u).cell? ⟨wr.heap.size + 1, 0, none⟩ = some (.complex .f64 0 0) := fun u => by rw [World.cell?_setCell_far _ _ _ _ (by show _ + 1 + 1 ≠ _ + 1; omega)]; exact t0
      have t0' : ((W1.alloc (.cells #[.complex .f64 0 0] 94)).alloc (.cells #[.complex .f64 0 0] 94)).drew.cell? ⟨wr.heap.size + 1, 0, none⟩ = some (.complex .f64 0 0) := t0
      have t1' : ((W1.alloc (.cells #[.complex .f64 0 0] 94)).alloc (.cells #[.complex .f64 0 0] 94)).drew.cell? ⟨wr.heap.size + 1 + 1, 0, none⟩ = some (.complex .f64 0 0) := t1
      have f0' : ((W1.alloc (.cells #[.complex .f64 0 0] 94)).alloc (.cells #[.complex .f64 0 0] 94)).drew.frozen? ⟨wr.heap.size + 1, 0, none⟩ = false := f0
      have f1' : ((W1.alloc (.cells #[.complex .f64 0 0] 94)).alloc (.cells #[.complex .f64 0 0] 94)).drew.frozen? ⟨wr.heap.size + 1 + 1, 0, none⟩ = false := f1
      have h0 : ∀ u, (((W1.alloc (.cells #[.complex .f64 0 0] 94)).alloc (.cells #[.complex .f64 0 0] 94)).drew.setCell ⟨wr.heap.size + 1, 0, none⟩ u).frozen? ⟨wr.heap.size + 1 + 1, 0, none⟩ = false := fun u => by rw [World.frozen?_setCell]; exact f1
      have h1 : ∀ u, (((W1.alloc (.cells #[.complex .f64 0 0] 94)).alloc (.cells #[.complex .f64 0 0] 94)).drew.setCell ⟨wr.heap.size + 1 + 1, 0, none⟩ u).frozen? ⟨wr.heap.size + 1, 0, none⟩ = false := fun u => by rw [World.frozen?_setCell]; exact f0
      have hst : ∀ (a : Addr) (m : Mode) (x y : Nat) (w : World), (store a (.complex .f64 x y) m).run Tryz.prog w = stored Tryz.prog w a (.complex .f64 x y) m := fun a m x y w => run_store Tryz.prog w a _ m rfl
      have HII := hid (And.intro (And.intro Ii Ii') (And.intro Ij Ij'))
      have HPP := hid HPW
      clear Ii Ii' Ij Ij' HPW
      go_wp2_with fail
      rw [← hW1]
      clear hW1
      go_region_held3 (fun W => W.cell? ⟨bP, 0, none⟩ = some (.slice (some ⟨pb, po, none⟩) n cap) ∧ W.cell? ⟨wr.heap.size, 0, none⟩ = some (.int .i64 (u : Nat)) ∧ W.cell? ⟨wr.heap.size, 1, none⟩ = some (.int .i64 (v : Nat)) ∧ W.cell? ⟨pb, po + u, none⟩ = some (.complex .f64 ri ii) ∧ W.cell? ⟨pb, po + v, none⟩ = some (.complex .f64 rj ij)) (go_keep) (fail)
      all_goals
        clear t0 t1 f0 f1 s0 s1 t0' t1' f0' f1' h0 h1 hst
        first
          | (obtain ⟨W4, hW4⟩ : ∃ W4 : World, W4 = ((W1.alloc (.cells #[.complex .f64 ri ii] 94)).alloc (.cells #[.complex .f64 rj ij] 94)).drew := ⟨_, rfl⟩
             rw [← hW4]
             have hAB := ab_new W1 (wr.heap.size + 1) S1 (.complex .f64 ri ii) (.complex .f64 rj ij)
             rw [← hW4] at hAB
             obtain ⟨b3, hb3⟩ : ∃ b3, b3 = wr.heap.size + 1 + 1 := ⟨_, rfl⟩
             obtain ⟨b2, hb2⟩ : ∃ b2, b2 = wr.heap.size + 1 := ⟨_, rfl⟩
             rw [← hb3, ← hb2]
             rw [← hb3, ← hb2] at hAB
             obtain ⟨bA, hbA⟩ : ∃ bA, bA = b2 := ⟨_, rfl⟩
             obtain ⟨bB, hbB⟩ : ∃ bB, bB = b3 := ⟨_, rfl⟩
             rw [← hbA, ← hbB]
             rw [← hbA, ← hbB] at hAB
             have cA : W4.cell? ⟨bA, 0, none⟩ = some (.complex .f64 ri ii) := hAB.1
             have cB : W4.cell? ⟨bB, 0, none⟩ = some (.complex .f64 rj ij) := hAB.2.1)
          | (obtain ⟨W4, hW4⟩ : ∃ W4 : World, W4 = ((W1.alloc (.cells #[.complex .f64 rj ij] 94)).alloc (.cells #[.complex .f64 ri ii] 94)).drew := ⟨_, rfl⟩
             rw [← hW4]
             have hAB := ab_new W1 (wr.heap.size + 1) S1 (.complex .f64 rj ij) (.complex .f64 ri ii)
             rw [← hW4] at hAB
             obtain ⟨b3, hb3⟩ : ∃ b3, b3 = wr.heap.size + 1 + 1 := ⟨_, rfl⟩
             obtain ⟨b2, hb2⟩ : ∃ b2, b2 = wr.heap.size + 1 := ⟨_, rfl⟩
             rw [← hb3, ← hb2]
             rw [← hb3, ← hb2] at hAB
             obtain ⟨bA, hbA⟩ : ∃ bA, bA = b3 := ⟨_, rfl⟩
             obtain ⟨bB, hbB⟩ : ∃ bB, bB = b2 := ⟨_, rfl⟩
             rw [← hbA, ← hbB]
             rw [← hbA, ← hbB] at hAB
             have cA : W4.cell? ⟨bA, 0, none⟩ = some (.complex .f64 ri ii) := hAB.2.1
             have cB : W4.cell? ⟨bB, 0, none⟩ = some (.complex .f64 rj ij) := hAB.1)
        have b4 := hAB.2.2.1
        have z4 : W4.heap.size = wr.heap.size + 3 := by have := hAB.2.2.2; omega
        have HB4 := hid (HB1.out.trans (b4.mono HB1.out.size))
        have HP4 := hid (HPP.out.below b4 HPP.out.lt)
        have cP4 := (b4.cell l1).trans cP
        have HC := hid (And.intro cA (And.intro cB cP4))
        have bu := HP4.out.bd u huv.1
        have bv := HP4.out.bd v huv.2
        have kp : ∀ W, Below W4.heap.size W4 W → W.cell? ⟨bA, 0, none⟩ = some (.complex .f64 ri ii) ∧ W.cell? ⟨bB, 0, none⟩ = some (.complex .f64 rj ij) ∧ W.cell? ⟨bP, 0, none⟩ = some (.slice (some ⟨pb, po, none⟩) n cap) := fun W hW => ⟨(hW.cell (World.block_lt_of_cell? W4 _ cA)).trans cA, (hW.cell (World.block_lt_of_cell? W4 _ cB)).trans cB, (hW.cell (World.block_lt_of_cell? W4 _ cP4)).trans cP4⟩
        have CL : ∀ (W : World) (p r q : Nat), p < n → Below W4.heap.size W4 W → W4.cell? ⟨pb, po + p, none⟩ = some (.complex .f64 r q) → Calls Tryz.prog 99 #[.complex .f64 r q, .pointer (some ⟨bA, 0, none⟩), .pointer (some ⟨bB, 0, none⟩)] W fun e w' => e = .returned (.bool (betwB px py u v p)) ∧ Below W.heap.size W w' := fun W p r q hpn hW hc => by
          obtain ⟨r', q', e1, e2, e3⟩ := HP4.out.cell p hpn
          rw [e1] at hc
          have e4 : r' = r ∧ q' = q := by simpa using hc
          obtain ⟨rfl, rfl⟩ := e4
          exact btw99 ri ii rj ij r' q' bA bB px py u v p HII.out.1.1 HII.out.1.2 HII.out.2.1 HII.out.2.2 e2 e3 bu bv (HP4.out.bd p hpn) W (kp W hW).1 (kp W hW).2.1
        have C98 := hid (contains98 pb po n cap px py (betwB px py u v) #[.pointer (some ⟨bA, 0, none⟩), .pointer (some ⟨bB, 0, none⟩)] W4 (by omega) HP4.out CL)
        clear CL
        have HKP := hid kp
        have HUV := hid (And.intro huv (And.intro bu bv))
        clear hAB hW4 hb3 hb2 hbA hbB b4 x0 x1 ci cj cP S1 l1 l2 l3 cA cB kp xc yc b1 huv bu bv
        go_wp2_with fail
        refine C98.out.mono ?_
        rintro e w5 ⟨he, hb5⟩
        obtain ⟨bt, hbt⟩ : ∃ bt, bt = decide (∃ p, p < n ∧ betwB px py u v p = true) := ⟨_, rfl⟩
        have he' : e = .returned (.bool bt) := by rw [hbt]; exact he
        subst he'
        have HB5 := hid (HB4.out.trans (hb5.mono HB4.out.size))
        have HBE := hid hb5
        have HBT := hid hbt
        clear he hb5 hbt C98
        cases bt with
        | true =>
          have YES := hid (HWB.out.2 (.inl (of_decide_eq_true HBT.out.symm)))
          go_wp2_with fail
          go_ret
          exact ⟨⟨true, rfl, ⟨fun _ => ⟨i, by rw [← HK.out]; exact hik, YES.out⟩, fun _ => rfl⟩⟩, B0.out.trans (HB5.out.mono B0.out.size)⟩
        | false =>
          have NB := hid (of_decide_eq_false HBT.out.symm)
          have CL2 : ∀ (W : World) (j : Nat) (hj : j < xs.length), j < i → Below w5.heap.size w5 W → Calls Tryz.prog 102 #[.agg #[.int .i64 (xs[j].1 : Nat), .int .i64 (xs[j].2 : Nat)], .pointer (some ⟨bA, 0, none⟩), .pointer (some ⟨bB, 0, none⟩), .pointer (some ⟨bP, 0, none⟩)] W fun e w' => e = .returned (.bool (crF px py xs u v j)) ∧ Below W.heap.size W w' := fun W j hj hji hW => by
            have hWW := HBE.out.trans (hW.mono HBE.out.size)
            have gd : xs.getD j (0, 0) = xs[j] := by simp [List.getD_eq_getElem?_getD, hj]
            have ge : crF px py xs u v j = crossB px py u v xs[j].1 xs[j].2 := by unfold crF; rw [gd]
            rw [ge]
            have hxj := HX.out xs[j] (List.getElem_mem hj)
            have kk := HKP.out W hWW
            exact crs102 ri ii rj ij bA bB bP pb po n cap xs[j].1 xs[j].2 px py u v HII.out.1.1 HII.out.1.2 HII.out.2.1 HII.out.2.2 HUV.out.2.1 HUV.out.2.2 W (HP4.out.below hWW HP4.out.lt) hxj.1 hxj.2 kk.1 kk.2.1 kk.2.2
          have C101 := hid (contains101 i lcap (some ⟨lg, lo, none⟩) xs (crF px py xs u v) #[.pointer (some ⟨bA, 0, none⟩), .pointer (some ⟨bB, 0, none⟩), .pointer (some ⟨bP, 0, none⟩)] w5 (by omega) (HL.out.below HB5.out) (by omega) CL2)
          clear CL2
          have hil : (i : Int) ≤ lcap := by omega
          go_wp2_with fail
          refine C101.out.mono ?_
          rintro e w6 ⟨he, hb6⟩
          obtain ⟨ct, hct⟩ : ∃ ct, ct = decide (∃ j, j < i ∧ crF px py xs u v j = true) := ⟨_, rfl⟩
          have he' : e = .returned (.bool ct) := by rw [hct]; exact he
          subst he'
          have HB6 := hid (HB5.out.trans (hb6.mono HB5.out.size))
          have HCT := hid hct
          clear he hb6 hct C101
          cases ct with
          | true =>
            have YES := hid (HWB.out.2 (.inr (of_decide_eq_true HCT.out.symm)))
            go_wp2_with fail
            go_ret
            exact ⟨⟨true, rfl, ⟨fun _ => ⟨i, by rw [← HK.out]; exact hik, YES.out⟩, fun _ => rfl⟩⟩, B0.out.trans (HB6.out.mono B0.out.size)⟩
          | false =>
            have NC := hid (of_decide_eq_false HCT.out.symm)
            have HN : Hid (∀ r, r < i + 1 → ¬ wayB px py n xs r) := hid (fun r hr h => by
              rcases Nat.lt_or_ge r i with q | q
              · exact HJ.out r q h
              · have : r = i := by omega
                subst this
                rcases HWB.out.1 h with g | g
                · exact NB.out g
                · exact NC.out g)
            go_wp2_with fail
            go_roundw
            case rel => exact ⟨i + 1, by omega, by go_num, HN, HB6⟩
            case measure => simp [intOf]; omega
    · have hii : k = i := by omega
      subst hii
      go_wp2_with fail
      go_ret
      exact ⟨⟨false, rfl, ⟨fun h => (by cases h), fun ⟨r, hr, h⟩ => absurd h (HJ.out r (by rw [HK.out]; exact hr))⟩⟩, B0.out.trans (HB.out.mono B0.out.size)⟩
end Go.Proofs.YtdbebbbceeopaaaGreat

set_option linter.unusedSimpArgs false
namespace Go.Proofs.YtdbebbbceeopaaaGreat
open Go.RowKit Go.Maps
open Go.Sort (SortedIn)
open Geo (up bad lift Mesh Cor Quad flipM Inj Sd)

/-- Lines by the numbers of their points. -/
def toN (xs : List (Int × Int)) : List (Nat × Nat) := xs.map fun x => (x.1.toNat, x.2.toNat)

theorem toN_len (xs : List (Int × Int)) : (toN xs).length = xs.length := by simp [toN]

theorem LnI.toN {w : World} {a : Option Addr} {xs : List (Int × Int)} {n : Nat} (h : LnI w a xs) (hj : ∀ x ∈ xs, Jn n x) : Lns w a (toN xs) := by
  rcases h with h | ⟨g, o, e, hg, hc⟩
  · subst h; exact .inl rfl
  · refine .inr ⟨g, o, e, hg, fun i hi => ?_⟩
    have hi' : i < xs.length := by rw [toN_len] at hi; exact hi
    have j := hj xs[i] (List.getElem_mem hi')
    have e : (YtdbebbbceeopaaaGreat.toN xs)[i] = (xs[i].1.toNat, xs[i].2.toNat) := by simp [YtdbebbbceeopaaaGreat.toN]
    have c := hc i hi'
    rw [e]
    have e1 : ((xs[i].1.toNat : Nat) : Int) = xs[i].1 := Int.toNat_of_nonneg j.1.1
    have e2 : ((xs[i].2.toNat : Nat) : Int) = xs[i].2 := Int.toNat_of_nonneg j.2.1.1
    dsimp only
    rw [e1, e2]
    exact c

theorem toN_lt {xs : List (Int × Int)} {n : Nat} (hj : ∀ x ∈ xs, Jn n x) : ∀ y ∈ toN xs, y.1 < n ∧ y.2 < n ∧ y.1 ≠ y.2 := by
  intro y hy
  obtain ⟨x, hx, rfl⟩ := List.mem_map.1 hy
  obtain ⟨j1, j2, j3⟩ := hj x hx
  dsimp only
  omega

def jnB (n : Nat) (x : Int × Int) : Bool := decide (0 ≤ x.1 ∧ x.1 < n) && (decide (0 ≤ x.2 ∧ x.2 < n) && decide (x.1 ≠ x.2))

theorem jnB_iff {n : Nat} {xs : List (Int × Int)} : xs.all (jnB n) = true ↔ ∀ x ∈ xs, Jn n x := by
  rw [List.all_eq_true]
  simp only [jnB, Jn, Bool.and_eq_true, decide_eq_true_eq]

def wyB (px py : Nat → Int) (n : Nat) (xs : List (Nat × Nat)) (i : Nat) : Bool := (List.range n).any (fun p => betwB px py (xs.getD i (0, 0)).1 (xs.getD i (0, 0)).2 p) || (List.range i).any fun j => crossB px py (xs.getD i (0, 0)).1 (xs.getD i (0, 0)).2 (xs.getD j (0, 0)).1 (xs.getD j (0, 0)).2

theorem wyB_iff {px py : Nat → Int} {n : Nat} {xs : List (Nat × Nat)} : (List.range xs.length).any (wyB px py n xs) = true ↔ ∃ i, i < xs.length ∧ wayB px py n xs i := by
  simp only [wyB, wayB, List.any_eq_true, List.mem_range, Bool.or_eq_true]

/-- What lineRefusal answers. -/
def lineI (px py : Nat → Int) (n : Nat) (xs : List (Int × Int)) : Int :=
  if 20 < xs.length then 1 else if xs.all (jnB n) = true then (if (List.range (toN xs).length).any (wyB px py n (toN xs)) = true then 6 else 0) else 5

open Classical in
theorem lineI_eq (px py : Nat → Int) (n : Nat) (xs : List (Int × Int)) : lineI px py n xs = if 20 < xs.length then 1 else if ¬ ∀ x ∈ xs, Jn n x then 5 else if ∃ i, i < (toN xs).length ∧ wayB px py n (toN xs) i then 6 else 0 := by
  unfold lineI
  by_cases h1 : 20 < xs.length
  · rw [if_pos h1, if_pos h1]
  · rw [if_neg h1, if_neg h1]
    by_cases h2 : ∀ x ∈ xs, Jn n x
    · have h2' : ¬ ¬ ∀ x ∈ xs, Jn n x := fun k => k h2
      by_cases h3 : ∃ i, i < (toN xs).length ∧ wayB px py n (toN xs) i
      · rw [if_pos (jnB_iff.2 h2), if_pos (wyB_iff.2 h3), if_neg h2', if_pos h3]
      · rw [if_pos (jnB_iff.2 h2), if_neg (fun k => h3 (wyB_iff.1 k)), if_neg h2', if_neg h3]
    · rw [if_neg (fun k => h2 (jnB_iff.1 k)), if_pos h2]

set_option maxRecDepth 100000 in
set_option maxHeartbeats 2000000 in
theorem lineRef_any (px py : Nat → Int) (n qb qo cap lcap : Nat) (la : Option Addr) (xs : List (Int × Int)) (w : World) (hp : Pts w qb qo n px py) (hn : n ≤ 40) (hbd : ∀ i, i < n → (-1000 ≤ px i ∧ px i ≤ 1000) ∧ (-1000 ≤ py i ∧ py i ≤ 1000)) (hl : LnI w la xs) (hk : xs.length ≤ 1000000) (hcap : xs.length ≤ lcap) :
    Calls Tryz.prog 40 #[.slice (some ⟨qb, qo, none⟩) n cap, .slice la xs.length lcap] w fun e w' => e = .returned (.int .i64 (lineI px py n xs)) ∧ Below w.heap.size w w' := by
  have C1 := hid (allJoin_any n cap lcap (some ⟨qb, qo, none⟩) la xs w hl hk)
  have HP := hid hp
  have HBD := hid hbd
  have HL := hid hl
  obtain ⟨r, hr⟩ : ∃ r, r = lineI px py n xs := ⟨_, rfl⟩
  have R1 : Hid (20 < xs.length → r = 1) := hid (fun h => by rw [hr]; rw [lineI_eq]; rw [if_pos h])
  have R5 : Hid (¬ 20 < xs.length → (¬ ∀ x ∈ xs, Jn n x) → r = 5) := hid (fun h h' => by rw [hr]; rw [lineI_eq]; rw [if_neg h, if_pos h'])
  have R6 : Hid (¬ 20 < xs.length → (∀ x ∈ xs, Jn n x) → (∃ i, i < (toN xs).length ∧ wayB px py n (toN xs) i) → r = 6) := hid (fun h h' h'' => by rw [hr]; rw [lineI_eq]; rw [if_neg h, if_neg (fun k => k h'), if_pos h''])
  have R0 : Hid (¬ 20 < xs.length → (∀ x ∈ xs, Jn n x) → (¬ ∃ i, i < (toN xs).length ∧ wayB px py n (toN xs) i) → r = 0) := hid (fun h h' h'' => by rw [hr]; rw [lineI_eq]; rw [if_neg h, if_neg (fun k => k h'), if_neg h''])
  rw [← hr]
  clear hr
  obtain ⟨k, hkk⟩ : ∃ k, k = xs.length := ⟨_, rfl⟩
  have HK := hid hkk
  rw [← hkk] at hk hcap C1 R1 R5 R6 R0 ⊢
  clear hp hbd hl hkk
  by_cases h20 : 20 < k
  · have e := R1.out h20
    subst e
    have h20' : (20 : Int) < k := by omega
    go_enter Tryz.func40, Tryz.ntmps40
    go_wp2_with fail
    go_ret
    exact ⟨rfl, Below.refl _ _⟩
  · have h20' : ¬ (20 : Int) < k := by omega
    go_enter Tryz.func40, Tryz.ntmps40
    go_wp2_with fail
    refine C1.out.mono ?_
    rintro e w1 ⟨⟨b, rfl, hb⟩, hb1⟩
    have HB1 := hid hb1
    have HBJ := hid hb
    clear hb hb1 C1
    cases b with
    | false =>
      have e := R5.out h20 (fun h => by have := HBJ.out.2 h; cases this)
      subst e
      go_wp2_with fail
      go_ret
      exact ⟨rfl, HB1.out⟩
    | true =>
      have hj := HBJ.out.1 rfl
      have HJ := hid hj
      have C2 := hid (places_any px py n qb qo cap w1 (HP.out.below HB1.out HP.out.lt) hn HBD.out)
      clear hj
      go_wp2_with fail
      refine C2.out.mono ?_
      rintro e w2 ⟨rfl, hb2, hp2⟩
      have HB2 := hid (HB1.out.trans (hb2.mono HB1.out.size))
      have C3 := hid (inWay_any w1.heap.size 0 n n lcap px py la (toN xs) w2 hn hp2 ((HL.out.below HB2.out).toN HJ.out) (by rw [toN_len, ← HK.out]; omega) (by rw [toN_len, ← HK.out]; exact hcap) (fun y hy => ⟨(toN_lt HJ.out y hy).1, (toN_lt HJ.out y hy).2.1⟩))
      rw [toN_len, ← HK.out] at C3
      clear C2 hb2 hp2
      go_wp2_with fail
      refine C3.out.mono ?_
      rintro e w3 ⟨⟨b, rfl, hb⟩, hb3⟩
      have HB3 := hid (HB2.out.trans (hb3.mono HB2.out.size))
      have HBW := hid hb
      clear hb hb3 C3
      cases b with
      | true =>
        have hw := HBW.out.1 rfl
        have e := R6.out h20 HJ.out hw
        subst e
        clear hw
        go_wp2_with fail
        go_ret
        exact ⟨rfl, HB3.out⟩
      | false =>
        have e := R0.out h20 HJ.out (fun h => by have := HBW.out.2 h; cases this)
        subst e
        go_wp2_with fail
        go_ret
        exact ⟨rfl, HB3.out⟩

theorem lineI_ok {px py : Nat → Int} {n : Nat} {xs : List (Int × Int)} (h : lineI px py n xs = 0) : xs.length ≤ 20 ∧ (∀ x ∈ xs, Jn n x) ∧ Lok px py n (toN xs) := by
  rw [lineI_eq] at h
  by_cases h1 : 20 < xs.length
  · rw [if_pos h1] at h; cases h
  · rw [if_neg h1] at h
    by_cases h2 : ∀ x ∈ xs, Jn n x
    · rw [if_neg (fun k => k h2)] at h
      by_cases h3 : ∃ i, i < (toN xs).length ∧ wayB px py n (toN xs) i
      · rw [if_pos h3] at h; cases h
      · have nb : ∀ i, (hi : i < (toN xs).length) → ∀ p, p < n → betwB px py (toN xs)[i].1 (toN xs)[i].2 p = false := fun i hi p hp => by
          cases hb : betwB px py (toN xs)[i].1 (toN xs)[i].2 p with
          | false => rfl
          | true =>
            exfalso
            refine h3 ⟨i, hi, .inl ⟨p, hp, ?_⟩⟩
            rw [List.getD_eq_getElem?_getD, List.getElem?_eq_getElem hi]
            exact hb
        have nc : ∀ i j, (hi : i < (toN xs).length) → (hj : j < (toN xs).length) → j < i → crossB px py (toN xs)[i].1 (toN xs)[i].2 (toN xs)[j].1 (toN xs)[j].2 = false := fun i j hi hj hji => by
          cases hb : crossB px py (toN xs)[i].1 (toN xs)[i].2 (toN xs)[j].1 (toN xs)[j].2 with
          | false => rfl
          | true =>
            exfalso
            refine h3 ⟨i, hi, .inr ⟨j, hji, ?_⟩⟩
            rw [List.getD_eq_getElem?_getD, List.getElem?_eq_getElem hi, List.getD_eq_getElem?_getD, List.getElem?_eq_getElem hj]
            exact hb
        refine ⟨by omega, h2, ⟨toN_lt h2, fun x hx y hy => ?_, fun x hx p hp => ?_⟩⟩
        · obtain ⟨i, hi, rfl⟩ := List.getElem_of_mem hx
          obtain ⟨j, hj, rfl⟩ := List.getElem_of_mem hy
          rcases Nat.lt_trichotomy i j with k | k | k
          · rw [crossB_pair]; exact nc j i hj hi k
          · subst k; exact crossB_self _ _ _ _
          · exact nc i j hi hj k
        · obtain ⟨i, hi, rfl⟩ := List.getElem_of_mem hx
          exact nb i hi p hp
    · rw [if_pos h2] at h; cases h

end Go.Proofs.YtdbebbbceeopaaaGreat
