import Derived.Test.YtdbebbbceeopaaaGreatN25
set_option linter.unusedSimpArgs false
namespace Go.Proofs.YtdbebbbceeopaaaGreat
open Go.RowKit
open Geo (rv rv_rv rv_lt)

theorem own_in {w : World} {B e size n : Nat} {v : Value} {xs : List Value} (h : w.ownsRow B e size v n xs) : ∀ q, v.ownBlock = some q → B ≤ q ∧ q < w.heap.size := by
  intro q hq
  rcases h.2 with ⟨rfl, _⟩ | ⟨g, cap, cur, rfl, hb, hh, _⟩
  · cases hq
  · cases hq
    exact ⟨hb, (Array.getElem?_eq_some_iff.1 hh).1⟩

theorem new_two (w : World) (a b : Value) : ∀ (j : Nat) (u : Value), [a, b][j]? = some u → (w.alloc (.cells #[a, b] 35)).cell? ((⟨w.heap.size, 0, none⟩ : Addr).add j) = some u := by
  intro j u hu
  match j, hu with
  | 0, hu => simp at hu; subst hu; exact World.cell?_alloc_at _ _ _ _ rfl
  | 1, hu => simp at hu; subst hu; exact World.cell?_alloc_at _ _ _ _ rfl
  | j + 2, hu => simp at hu

theorem one_two (a b : Int) : ∀ u ∈ [Value.int .i64 a, Value.int .i64 b], u.oneCell' = true := by
  intro u hu
  simp at hu
  rcases hu with rfl | rfl <;> rfl

/-- append, as one of a list of operations, and where what it gives lies. -/
theorem wpList_append_pts {P : Program} (w : World) {ops : Array Oper} {rest : List Oper} {o : Oper} {a : Act} {Q : Exit → Act → World → Prop} (hgd : o.guard = none) (s x : Operand) (t : TypeId)
    (ho : o.op = .call { callee := .builtin .append, args := #[s, x], argTypes := #[t, t] })
    (base : Nat) (e : TypeId) (i : TypeInfo) (z : Value) (size bytes : Nat) (ht : P.underlying t = some (.slice e)) (hi : P.info? e = some i) (hz : i.zero = some z)
    (hsize : i.size = size) (hby : i.bytes = bytes) (hzs : z.cells.size = size) (hsz : 0 < size)
    (v : Value) (n : Nat) (xs : List Value) (hs : a.eval s = v) (hown : w.ownsRow base e size v n xs)
    (ad : Addr) (m c : Nat) (news : List Value) (hx : a.eval x = .slice (some ad) m c) (hl : news.length = m * size) (hnews : ∀ j u, news[j]? = some u → w.cell? (ad.add j) = some u) (h1 : ∀ u ∈ news, u.oneCell' = true)
    (hm : 0 < m) (h63 : n + m ≤ maxLen) (hbytes : (n + m) * bytes ≤ 140737488355328) (hbase : base ≤ w.heap.size) (H : Nat) (hH : w.heap.size = H)
    (h : ∀ g cap w', w'.ownsRow base e size (.slice (some ⟨g, 0, none⟩) (n + m) cap) (n + m) (xs ++ news) → w.grownBy w' v.ownBlock → (v.ownBlock = some g ∨ g = H) → g < w'.heap.size → wpList P ops Q rest (a.put o.dst (.slice (some ⟨g, 0, none⟩) (n + m) cap)) w') : wpList P ops Q (o :: rest) a w :=
  wpList_plain hgd fun _ hK => wp_append_lies w s x t ho base e i z size bytes ht hi hz hsize hby hzs hsz v n xs hs hown ad m c news hx hl hnews h1 hm h63 hbytes hbase H hH fun g cap w' h2 h3 h4 h5 => hK _ _ (h g cap w' h2 h3 h4 h5)

/-- A list of points that is made longer, another beside it, and all that is older. -/
theorem far_step {w1 W0 w9 : World} {fv bv : Value} {i k g gi ci : Nat} {xs ys : List Value} (HO : W0.ownsRow w1.heap.size 35 2 fv i xs) (HU : W0.ownsRow w1.heap.size 35 2 bv k ys) (HD : ∀ q, fv.ownBlock = some q → bv.ownBlock ≠ some q) (HB : Below w1.heap.size w1 W0) (hg : g < w1.heap.size) (x y : Int)
    (hown : w9.ownsRow w1.heap.size 35 2 (.slice (some ⟨gi, 0, none⟩) (i + 1) ci) (i + 1) (xs ++ [.int .i64 x, .int .i64 y]))
    (hgrow : W0.grownBy w9 fv.ownBlock) (hat : fv.ownBlock = some gi ∨ gi = W0.heap.size) :
    w9.ownsRow w1.heap.size 35 2 (.slice (some ⟨gi, 0, none⟩) (i + 1) ci) (i + 1) (xs ++ [.int .i64 x, .int .i64 y]) ∧ w9.ownsRow w1.heap.size 35 2 bv k ys ∧ (∀ q, Value.ownBlock (.slice (some ⟨gi, 0, none⟩) (i + 1) ci) = some q → bv.ownBlock ≠ some q) ∧
      (∀ {o : Nat} (v : Value), W0.cell? ⟨g, o, none⟩ = some v → w9.cell? ⟨g, o, none⟩ = some v) ∧ Below w1.heap.size w1 w9 := by
  have f1 := own_in HO
  have f2 := own_in HU
  refine ⟨hown, ?_, ?_, ?_, ?_⟩
  · refine HU.kept hgrow ?_
    cases hb : bv.ownBlock with
    | none => exact .inl rfl
    | some q => exact .inr (fun e => HD q e.symm hb)
  · intro q hq hb
    have e : gi = q := Option.some.inj hq
    subst e
    rcases hat with h | h
    · exact HD _ h hb
    · have := (f2 _ hb).2
      omega
  · intro o v hv
    refine hgrow.cell (a := ⟨g, o, none⟩) hv (fun e => ?_)
    have := (f1 g e.symm).1
    omega
  · exact HB.grown hgrow HB.size (fun q hq => (f1 q hq).1)

theorem tri_few {n : Nat} {px py : Nat → Int} (h3 : 3 ≤ n) (h40 : n ≤ 40) (hr : refI px py n = 0) (g cp : Nat) (w : World) (hp : Pts w g 0 n px py) (hcp : n ≤ cp) :
    Calls Tryz.prog 15 #[.slice (some ⟨g, 0, none⟩) n cp] w fun e w' => Below w.heap.size w w' ∧ ∃ (g2 cp2 : Nat) (d : Array T3) (M : Nat → Nat → Option Nat) (hs : List Nat), e = .returned (.tuple #[.slice (some ⟨g2, 0, none⟩) d.size cp2, .int .i64 0]) ∧ d.size ≤ 1600 ∧ 0 < d.size ∧ Trs w' g2 0 d.size (dz d) ∧ Tris M d ∧ Msh px py n M hs ∧ Geo.Loc px py M := by
  have hz : NeZero n := ⟨by omega⟩
  refine (triangles_ok px py n g 0 cp w hp h3 h40 hcp hr).mono ?_
  rintro e w' ⟨hb, g2, cp2, d, M, hs, rfl, hg2, hd, hown, hT, hM, hL⟩
  refine ⟨hb, g2, cp2, d, M, hs, rfl, hd, ?_, trs_own hown, hT, hM, hL⟩
  obtain ⟨a, b, c, e, h1, h2⟩ := one_tri hM.mesh hM.cor (by omega)
  have := List.length_pos_of_mem (hT.all a b c e h1 h2)
  simpa using this

theorem sane_few {n : Nat} {px py : Nat → Int} {M : Nat → Nat → Option Nat} {hs : List Nat} {d : Array T3} (hbd : Bds n px py) (hT : Tris M d) (hM : Msh px py n M hs) (g cp g2 cp2 : Nat) (w : World) (hp : Pts w g 0 n px py) (ht : Trs w g2 0 d.size (dz d)) (hd : d.size ≤ 1600) :
    Calls Tryz.prog 16 #[.slice (some ⟨g, 0, none⟩) n cp, .slice (some ⟨g2, 0, none⟩) d.size cp2] w fun e w' => e = .returned (.bool true) ∧ Below w.heap.size w w' :=
  sane_any px py n g 0 cp d.size cp2 (some ⟨g2, 0, none⟩) (dz d) (dA d) (dB d) (dC d) w hp (fun _ => ⟨g2, 0, rfl, ht⟩) (by omega) hbd (hT.row3 hM.mesh) (fun i hi => (hT.lists.tri i hi).2) (fun i hi => hM.mesh.pos _ _ _ (hT.lists.tri i hi).1)

/-- As many triangles, wherever the points are moved and whichever way their list goes. -/
theorem moved_len {n : Nat} {px py : Nat → Int} {x y : Int} (h : Few n px py) (hx : -250 ≤ x ∧ x ≤ 249) (hy : -250 ≤ y ∧ y ≤ 249) {M M3 M4 : Nat → Nat → Option Nat} {hs hs3 hs4 : List Nat} {d d3 d4 : Array T3} (hM : Msh px py n M hs) (hT : Tris M d)
    (hM3 : Msh (fun i => px i + x) (fun i => py i + y) n M3 hs3) (hT3 : Tris M3 d3) (hM4 : Msh (fun i => px (rv n i)) (fun i => py (rv n i)) n M4 hs4) (hT4 : Tris M4 d4) : d3.size = d.size ∧ d4.size = d.size := by
  have c := hM.count h.len h.ref h.inj hT.lists
  have c3 := hM3.count h.len (h.ref_far hx hy) (refI_inj (h.ref_far hx hy)) hT3.lists
  have c4 := hM4.count h.len h.ref_back (refI_inj h.ref_back) hT4.lists
  rw [bdc_shift] at c3
  rw [bdc_rev] at c4
  omega

theorem moved_eq {n : Nat} {px py : Nat → Int} {x y : Int} (h : Few n px py) (hf : Geo.Free px py n) {M M3 M4 : Nat → Nat → Option Nat} {hs hs3 hs4 : List Nat} {d d3 d4 : Array T3} (hM : Msh px py n M hs) (hT : Tris M d) (hL : Geo.Loc px py M)
    (hM3 : Msh (fun i => px i + x) (fun i => py i + y) n M3 hs3) (hT3 : Tris M3 d3) (hL3 : Geo.Loc (fun i => px i + x) (fun i => py i + y) M3) (hM4 : Msh (fun i => px (rv n i)) (fun i => py (rv n i)) n M4 hs4) (hT4 : Tris M4 d4) (hL4 : Geo.Loc (fun i => px (rv n i)) (fun i => py (rv n i)) M4)
    {i k : Nat} (hi : i < n) (hk : k < i) : sideB (dA d3) (dB d3) (dC d3) i k d3.size = sideB (dA d) (dB d) (dC d) i k d.size ∧ sideB (dA d4) (dB d4) (dC d4) (rv n i) (rv n k) d4.size = sideB (dA d) (dB d) (dC d) i k d.size := by
  have hkn : k < n := by omega
  have hne : i ≠ k := by omega
  have hne' : rv n i ≠ rv n k := by unfold rv; omega
  refine ⟨bool_iff ?_, bool_iff ?_⟩
  · rw [side_joined hM3.mesh hT3 hne, side_joined hM.mesh hT hne]
    exact (joined_same hM.mesh h.inj hM.cor hL hM3.mesh.unshift hM3.cor hL3.unshift hf i k).symm
  · rw [side_joined hM4.mesh hT4 hne', side_joined hM.mesh hT hne, ← joined_rev hi hkn]
    exact (joined_same hM.mesh h.inj hM.cor hL hM4.mesh.unrev (hM4.cor.unrev hM4.mesh) (hL4.unrev hM4.mesh) hf i k).symm

set_option maxRecDepth 100000 in
set_option maxHeartbeats 8000000 in
theorem moved_any (a : Option Addr) (len cap : Nat) (sz x0 y0 : Int) (w : World) (wx : -9223372036854775808 ≤ x0 ∧ x0 ≤ 9223372036854775807) (wy : -9223372036854775808 ≤ y0 ∧ y0 ≤ 9223372036854775807)
    (hpts : Calls Tryz.prog 14 #[.slice a len cap, .int .i64 sz] w fun e w' => ∃ v N ps, e = .returned v ∧ Below w.heap.size w w' ∧ Sq N ps ∧ w'.ownsRow w.heap.size 35 2 v ps.length (cellsP ps)) :
    Calls Tryz.prog 6 #[.slice a len cap, .int .i64 sz, .int .i64 x0, .int .i64 y0] w fun e w' => e = .returned (.bool true) ∧ Below w.heap.size w w' := by
  obtain ⟨i0, hi0, hz0, hz1, hz2⟩ := info_parts Tryz.info35
  have C1 := hid (points_set hpts)
  clear hpts
  have K2 := hid (fun W => pick_any x0 500 wx (by omega) (by omega) W)
  have K3 := hid (fun W => pick_any y0 500 wy (by omega) (by omega) W)
  have p2 := pickI_bd x0 500 (by omega)
  have p3 := pickI_bd y0 500 (by omega)
  obtain ⟨x1, hx1⟩ : ∃ x1, x1 = pickI x0 500 := ⟨_, rfl⟩
  obtain ⟨y1, hy1⟩ : ∃ y1, y1 = pickI y0 500 := ⟨_, rfl⟩
  rw [← hx1] at K2 p2
  rw [← hy1] at K3 p3
  clear hx1 hy1 wx wy
  go_enter Tryz.func6, Tryz.ntmps6
  go_wp2_with fail
  refine C1.out.mono ?_
  rintro e w1 ⟨g, n0, cp, px, py, rfl, hb1, hcp, hS, hP⟩
  have HB1 := hid hb1
  have HS := hid hS
  have HP0 := hid hP
  have hn3 := hS.len
  have hn30 := hS.len'
  clear C1 hb1 hS hP
  by_cases h12 : 12 < n0
  case' pos =>
    have h12' : (12 : Int) < n0 := by omega
    have h12c : (12 : Int) ≤ cp := by omega
    go_wp2_with fail
    obtain ⟨n, hn⟩ : ∃ n : Nat, n = 12 := ⟨_, rfl⟩
    rw [show Value.slice (some ⟨g, 0, none⟩) 12 cp = Value.slice (some ⟨g, 0, none⟩) n cp by rw [hn], show Value.int IntKind.i64 12 = Value.int IntKind.i64 (n : Nat) by rw [hn]; rfl]
    have hle : n ≤ n0 := by omega
  case' neg =>
    have h12' : ¬ (12 : Int) < n0 := by omega
    go_wp2_with fail
    obtain ⟨n, hn⟩ : ∃ n : Nat, n = n0 := ⟨_, rfl⟩
    rw [← hn]
    have hle : n ≤ n0 := by omega
  all_goals
    have n3 : 3 ≤ n := by omega
    have n12 : n ≤ 12 := by omega
    have HF := hid (HS.out.few n3 n12 hle)
    have HP : Hid (Pts w1 g 0 n px py) := hid ⟨HP0.out.lt, fun i hi => HP0.out.x i (by omega), fun i hi => HP0.out.y i (by omega)⟩
    have hcn : n ≤ cp := by omega
    clear HP0 HS h12 h12' hn3 hn30 hcp hle hn
  all_goals
    -- the tail
    go_loopw [11, 12, 13] (fun fv bv j wr => ∃ i : Nat, i ≤ n ∧ j = .int .i64 i ∧ Hid (wr.ownsRow w1.heap.size 35 2 fv i (cellsP (prs (fun i => px i + (x1 - 250)) (fun i => py i + (y1 - 250)) i))) ∧ Hid (wr.ownsRow w1.heap.size 35 2 bv i (cellsP (prs (fun i => px (rv n i)) (fun i => py (rv n i)) i))) ∧ Hid (∀ q, fv.ownBlock = some q → bv.ownBlock ≠ some q) ∧ Hid (Below w1.heap.size w1 wr)) (fun _ _ j _ => n - (intOf j).toNat)
    case atStart => exact ⟨0, Nat.zero_le _, rfl, hid (World.ownsRow_nil _ _ _ _), hid (World.ownsRow_nil _ _ _ _), hid (fun q h => by cases h), hid (Below.refl _ _)⟩
    case round =>
      obtain ⟨i, hi, rfl, HO, HU, HD, HB⟩ := hrel
      by_cases hin : i < n
      · have hin' : (i : Int) < n := by omega
        have hpw := HP.out.below HB.out HP.out.lt
        have xi : wr.drew.cell? ⟨g, i * 2, none⟩ = some (.int .i64 (px i)) := by have := hpw.x i hin; rwa [Nat.zero_add] at this
        have yi : wr.drew.cell? ⟨g, i * 2 + 1, none⟩ = some (.int .i64 (py i)) := by have := hpw.y i hin; rwa [Nat.zero_add] at this
        have START := And.intro xi yi
        have q1 : (0 : Int) ≤ (i : Int) := by omega
        have bd := HF.out.bd i hin
        have c1 : IntKind.i64.wrap (px i + x1) = px i + x1 := by rw [IntKind.wrap_i64]; omega
        have c2 : IntKind.i64.wrap (px i + x1 - 250) = px i + x1 - 250 := by rw [IntKind.wrap_i64]; omega
        have c3 : IntKind.i64.wrap (py i + y1) = py i + y1 := by rw [IntKind.wrap_i64]; omega
        have c4 : IntKind.i64.wrap (py i + y1 - 250) = py i + y1 - 250 := by rw [IntKind.wrap_i64]; omega
        obtain ⟨r, hr⟩ : ∃ r, r = rv n i := ⟨_, rfl⟩
        have hrn : r < n := by rw [hr]; exact rv_lt hin
        have e5 : (n : Int) - 1 - (i : Int) = (r : Nat) := by rw [hr]; unfold rv; omega
        have xr : wr.drew.cell? ⟨g, r * 2, none⟩ = some (.int .i64 (px r)) := by have := hpw.x r hrn; rwa [Nat.zero_add] at this
        have yr : wr.drew.cell? ⟨g, r * 2 + 1, none⟩ = some (.int .i64 (py r)) := by have := hpw.y r hrn; rwa [Nat.zero_add] at this
        have hrn' : (r : Int) < n := by omega
        have q2 : (0 : Int) ≤ (r : Int) := by omega
        have HRV := hid hr
        have c5 : IntKind.i64.wrap ((n : Int) - 1) = n - 1 := by rw [IntKind.wrap_i64]; omega
        have c6 : IntKind.i64.wrap ((n : Int) - 1 - (i : Int)) = (r : Nat) := by rw [IntKind.wrap_i64]; omega
        clear hpw xi yi hr
        go_wp2_with fail
        refine wp_region_held_drew (S := (fun W => W.cell? ⟨g, i * 2, none⟩ = some (.int .i64 (px i)) ∧ W.cell? ⟨g, i * 2 + 1, none⟩ = some (.int .i64 (py i)))) (by kernel_rfl) START (fun hHeld => ?_)
        clear hHeld
        refine wpAnyH_take (i := 0) (v := u11) rfl (by kernel_rfl) (by kernel_rfl) (by kernel_rfl) (fun _ _ _ h => h) (Or.inl ⟨by kernel_rfl, ?_⟩) (by assumption) ?_
        · intro W hSw
          try dsimp only at hSw
          go_simp
        try simp only [Act.put, List.setIfInBounds_toArray, List.set_cons_zero, List.set_cons_succ]
        refine wpAnyH_take (i := 1) (v := .slice (some ⟨g, 0, none⟩) n cp) rfl (by kernel_rfl) (by kernel_rfl) (by kernel_rfl) (fun _ _ _ h => h) (Or.inl ⟨by kernel_rfl, ?_⟩) (by assumption) ?_
        · intro W hSw
          try dsimp only at hSw
          go_simp
        try simp only [Act.put, List.setIfInBounds_toArray, List.set_cons_zero, List.set_cons_succ]
        refine wpAnyH_take (i := 2) (v := .int .i64 (i : Nat)) rfl (by kernel_rfl) (by kernel_rfl) (by kernel_rfl) (fun _ _ _ h => h) (Or.inl ⟨by kernel_rfl, ?_⟩) (by assumption) ?_
        · intro W hSw
          try dsimp only at hSw
          go_simp
        try simp only [Act.put, List.setIfInBounds_toArray, List.set_cons_zero, List.set_cons_succ]
        refine wpAnyH_take (i := 3) (v := .pointer (some ⟨g, i * 2, none⟩)) rfl (by kernel_rfl) (by kernel_rfl) (by kernel_rfl) (fun _ _ _ h => h) (Or.inl ⟨by kernel_rfl, ?_⟩) (by assumption) ?_
        · intro W hSw
          try dsimp only at hSw
          go_simp
        try simp only [Act.put, List.setIfInBounds_toArray, List.set_cons_zero, List.set_cons_succ]
        refine wpAnyH_take (i := 4) (v := .pointer (some ⟨g, i * 2, none⟩)) rfl (by kernel_rfl) (by kernel_rfl) (by kernel_rfl) (fun _ _ _ h => h) (Or.inl ⟨by kernel_rfl, ?_⟩) (by assumption) ?_
        · intro W hSw
          try dsimp only at hSw
          go_simp
        try simp only [Act.put, List.setIfInBounds_toArray, List.set_cons_zero, List.set_cons_succ]
        refine wpAnyH_take (i := 5) (v := .int .i64 (px i)) rfl (by kernel_rfl) (by kernel_rfl) (by kernel_rfl) (fun _ _ _ h => h) (Or.inl ⟨by kernel_rfl, ?_⟩) (by assumption) ?_
        · intro W hSw
          try dsimp only at hSw
          go_simp
        try simp only [Act.put, List.setIfInBounds_toArray, List.set_cons_zero, List.set_cons_succ]
        refine wpAnyH_take (i := 6) (v := .int .i64 x0) rfl (by kernel_rfl) (by kernel_rfl) (by kernel_rfl) (fun _ _ _ h => h) (Or.inl ⟨by kernel_rfl, ?_⟩) (by assumption) ?_
        · intro W hSw
          try dsimp only at hSw
          go_simp
        try simp only [Act.put, List.setIfInBounds_toArray, List.set_cons_zero, List.set_cons_succ]
        refine wpAnyH_take (i := 10) (v := .slice (some ⟨g, 0, none⟩) n cp) rfl (by kernel_rfl) (by kernel_rfl) (by kernel_rfl) (fun _ _ _ h => h) (Or.inl ⟨by kernel_rfl, ?_⟩) (by assumption) ?_
        · intro W hSw
          try dsimp only at hSw
          go_simp
        try simp only [Act.put, List.setIfInBounds_toArray, List.set_cons_zero, List.set_cons_succ]
        refine wpAnyH_take (i := 11) (v := .int .i64 (i : Nat)) rfl (by kernel_rfl) (by kernel_rfl) (by kernel_rfl) (fun _ _ _ h => h) (Or.inl ⟨by kernel_rfl, ?_⟩) (by assumption) ?_
        · intro W hSw
          try dsimp only at hSw
          go_simp
        try simp only [Act.put, List.setIfInBounds_toArray, List.set_cons_zero, List.set_cons_succ]
        refine wpAnyH_take (i := 12) (v := .pointer (some ⟨g, i * 2, none⟩)) rfl (by kernel_rfl) (by kernel_rfl) (by kernel_rfl) (fun _ _ _ h => h) (Or.inl ⟨by kernel_rfl, ?_⟩) (by assumption) ?_
        · intro W hSw
          try dsimp only at hSw
          go_simp
        try simp only [Act.put, List.setIfInBounds_toArray, List.set_cons_zero, List.set_cons_succ]
        refine wpAnyH_take (i := 13) (v := .pointer (some ⟨g, i * 2 + 1, none⟩)) rfl (by kernel_rfl) (by kernel_rfl) (by kernel_rfl) (fun _ _ _ h => h) (Or.inl ⟨by kernel_rfl, ?_⟩) (by assumption) ?_
        · intro W hSw
          try dsimp only at hSw
          go_simp
        try simp only [Act.put, List.setIfInBounds_toArray, List.set_cons_zero, List.set_cons_succ]
        refine wpAnyH_take (i := 14) (v := .int .i64 (py i)) rfl (by kernel_rfl) (by kernel_rfl) (by kernel_rfl) (fun _ _ _ h => h) (Or.inl ⟨by kernel_rfl, ?_⟩) (by assumption) ?_
        · intro W hSw
          try dsimp only at hSw
          go_simp
        try simp only [Act.put, List.setIfInBounds_toArray, List.set_cons_zero, List.set_cons_succ]
        refine wpAnyH_take (i := 15) (v := .int .i64 y0) rfl (by kernel_rfl) (by kernel_rfl) (by kernel_rfl) (fun _ _ _ h => h) (Or.inl ⟨by kernel_rfl, ?_⟩) (by assumption) ?_
        · intro W hSw
          try dsimp only at hSw
          go_simp
        try simp only [Act.put, List.setIfInBounds_toArray, List.set_cons_zero, List.set_cons_succ]
        refine wpAnyH_ready (rs := [7]) (by kernel_rfl) (by simp) ?_
        refine AllReadyH.cons rfl (fun K hK => ?_) AllReadyH.nil
        go_simp
        refine (K2.out _).mono ?_
        rintro e w6 ⟨rfl, he6⟩
        subst he6
        refine hK.out _ _ (by assumption) (fun hHeld => ?_)
        clear hK K hHeld
        try simp only [Act.put, List.setIfInBounds_toArray, List.set_cons_zero, List.set_cons_succ]
        refine wpAnyH_take (i := 8) (v := .int .i64 (px i + x1)) rfl (by kernel_rfl) (by kernel_rfl) (by kernel_rfl) (fun _ _ _ h => h) (Or.inl ⟨by kernel_rfl, ?_⟩) (by assumption) ?_
        · intro W hSw
          try dsimp only at hSw
          go_simp
        try simp only [Act.put, List.setIfInBounds_toArray, List.set_cons_zero, List.set_cons_succ]
        refine wpAnyH_take (i := 9) (v := .int .i64 (px i + x1 - 250)) rfl (by kernel_rfl) (by kernel_rfl) (by kernel_rfl) (fun _ _ _ h => h) (Or.inl ⟨by kernel_rfl, ?_⟩) (by assumption) ?_
        · intro W hSw
          try dsimp only at hSw
          go_simp
        try simp only [Act.put, List.setIfInBounds_toArray, List.set_cons_zero, List.set_cons_succ]
        refine wpAnyH_ready (rs := [16]) (by kernel_rfl) (by simp) ?_
        refine AllReadyH.cons rfl (fun K hK => ?_) AllReadyH.nil
        go_simp
        refine (K3.out _).mono ?_
        rintro e w6 ⟨rfl, he6⟩
        subst he6
        refine hK.out _ _ (by assumption) (fun hHeld => ?_)
        clear hK K hHeld
        try simp only [Act.put, List.setIfInBounds_toArray, List.set_cons_zero, List.set_cons_succ]
        refine wpAnyH_take (i := 17) (v := .int .i64 (py i + y1)) rfl (by kernel_rfl) (by kernel_rfl) (by kernel_rfl) (fun _ _ _ h => h) (Or.inl ⟨by kernel_rfl, ?_⟩) (by assumption) ?_
        · intro W hSw
          try dsimp only at hSw
          go_simp
        try simp only [Act.put, List.setIfInBounds_toArray, List.set_cons_zero, List.set_cons_succ]
        refine wpAnyH_take (i := 18) (v := .int .i64 (py i + y1 - 250)) rfl (by kernel_rfl) (by kernel_rfl) (by kernel_rfl) (fun _ _ _ h => h) (Or.inl ⟨by kernel_rfl, ?_⟩) (by assumption) ?_
        · intro W hSw
          try dsimp only at hSw
          go_simp
        try simp only [Act.put, List.setIfInBounds_toArray, List.set_cons_zero, List.set_cons_succ]
        refine wpAnyH_take (i := 19) (v := .agg #[.int .i64 (px i + x1 - 250), .int .i64 (py i + y1 - 250)]) rfl (by kernel_rfl) (by kernel_rfl) (by kernel_rfl) (fun _ _ _ h => h) (Or.inl ⟨by kernel_rfl, ?_⟩) (by assumption) ?_
        · intro W hSw
          try dsimp only at hSw
          go_simp
        try simp only [Act.put, List.setIfInBounds_toArray, List.set_cons_zero, List.set_cons_succ]
        have S2 := And.intro (cell_new (o := (.cells #[.int .i64 (px i + x1 - 250), .int .i64 (py i + y1 - 250)] 35)) START.1) (cell_new (o := (.cells #[.int .i64 (px i + x1 - 250), .int .i64 (py i + y1 - 250)] 35)) START.2)
        refine wpAnyH_ready (rs := [20]) (by kernel_rfl) (by simp) ?_
        refine AllReadyH.cons rfl (fun K hK => ?_) AllReadyH.nil
        go_simp
        refine hK.out _ _ (by assumption) (fun hHeld => ?_)
        clear hK K hHeld
        refine wpAnyH_ready (rs := [21]) (by kernel_rfl) (by simp) ?_
        refine AllReadyH.cons rfl (fun K hK => ?_) AllReadyH.nil
        refine step_append_lies _ (by rfl) (.tmp 42) (.tmp 62) 26 (by rfl) w1.heap.size 35 i0 (.agg #[.int .i64 0, .int .i64 0]) 2 16 Tryz.underlying26 hi0 hz0 hz1 hz2 (by rfl) (by decide) u11 i _ (by rfl) (HO.out.alloc _) ⟨wr.heap.size, 0, none⟩ 1 1 [.int .i64 (px i + x1 - 250), .int .i64 (py i + y1 - 250)] (by rfl) (by rfl) (new_two wr.drew _ _) (one_two _ _) (by decide) (by unfold maxLen; omega) (by omega) (by have := HB.out.size; show _ ≤ (wr.alloc _).heap.size; simp; omega) (wr.heap.size + 1) (by show (wr.alloc _).heap.size = _; simp) ?_
        intro gi ci w9 hown9 hgrow9 hat hlt9
        have F1 := hid (far_step (W0 := wr.drew.alloc (.cells #[.int .i64 (px i + x1 - 250), .int .i64 (py i + y1 - 250)] 35)) (HO.out.alloc _) (HU.out.alloc _) HD.out (HB.out.drew.alloc HB.out.size _) HP.out.lt (px i + x1 - 250) (py i + y1 - 250) hown9 hgrow9 (by rw [show (wr.drew.alloc (.cells #[.int .i64 (px i + x1 - 250), .int .i64 (py i + y1 - 250)] 35)).heap.size = wr.heap.size + 1 by show (wr.alloc _).heap.size = _; simp]; exact hat))
        have S9 := And.intro (F1.out.2.2.2.1 _ S2.1) (F1.out.2.2.2.1 _ S2.2)
        have xr9 := F1.out.2.2.2.1 _ (cell_new xr)
        have yr9 := F1.out.2.2.2.1 _ (cell_new yr)
        refine hK.out _ _ S9 (fun hHeld => ?_)
        clear hK K hHeld hown9 hgrow9 hat hlt9 S2 START xr yr
        try simp only [Act.put, List.setIfInBounds_toArray, List.set_cons_zero, List.set_cons_succ]
        refine wpAnyH_ready (rs := [22]) (by kernel_rfl) (by simp) ?_
        refine AllReadyH.cons rfl (fun K hK => ?_) AllReadyH.nil
        go_simp
        refine hK.out _ _ (by assumption) (fun hHeld => ?_)
        clear hK K hHeld
        refine wpAnyH_done (by kernel_rfl) ?_ _
        clear S9
        go_wp2_with (at_builtin; go_must (refine wpList_append_pts _ rfl _ _ 26 rfl w1.heap.size 35 i0 (.agg #[.int .i64 0, .int .i64 0]) 2 16 Tryz.underlying26 hi0 hz0 hz1 hz2 rfl (by decide) u12 i _ rfl (F1.out.2.1.alloc _) ⟨w9.heap.size, 0, none⟩ 1 1 [.int .i64 (px r), .int .i64 (py r)] rfl rfl (new_two w9 _ _) (one_two _ _) (by decide) (by unfold maxLen; omega) (by omega) (by have := F1.out.2.2.2.2.size; simp; omega) (w9.heap.size + 1) (by simp) ?_))
        intro gj cj w10 hown10 hgrow10 hat10 hlt10
        have F2 := hid (far_step (F1.out.2.1.alloc _) (F1.out.1.alloc _) (fun q h h' => F1.out.2.2.1 q h' h) (F1.out.2.2.2.2.alloc F1.out.2.2.2.2.size _) HP.out.lt (px r) (py r) hown10 hgrow10 (by simpa using hat10))
        clear hown10 hgrow10 hat10 hlt10 xr9 yr9
        have FIN : Hid (w10.ownsRow w1.heap.size 35 2 (.slice (some ⟨gi, 0, none⟩) (i + 1) ci) (i + 1) (cellsP (prs (fun i => px i + (x1 - 250)) (fun i => py i + (y1 - 250)) (i + 1))) ∧ w10.ownsRow w1.heap.size 35 2 (.slice (some ⟨gj, 0, none⟩) (i + 1) cj) (i + 1) (cellsP (prs (fun i => px (rv n i)) (fun i => py (rv n i)) (i + 1)))) := hid ⟨by
            rw [prs_snoc, cellsP_snoc]
            have := F2.out.2.1
            rw [show px i + x1 - 250 = px i + (x1 - 250) by omega, show py i + y1 - 250 = py i + (y1 - 250) by omega] at this
            exact this, by
            rw [prs_snoc, cellsP_snoc, ← HRV.out]
            exact F2.out.1⟩
        go_wp2_with fail
        go_roundw
        case rel => exact ⟨i + 1, by omega, by go_num, hid FIN.out.1, hid FIN.out.2, hid (fun q h h' => F2.out.2.2.1 q h' h), hid F2.out.2.2.2.2⟩
        case measure => simp [intOf]; omega
      · have hii : n = i := by omega
        subst hii
        obtain ⟨gf, cf, e1, hcf, PF⟩ := prs_pts HO.out (by omega)
        obtain ⟨gk, ck, e2, hck, PK⟩ := prs_pts HU.out (by omega)
        subst e1 e2
        have HPF := hid PF
        have HPK := hid PK
        have HPL := hid (HP.out.below HB.out HP.out.lt)
        have X : -250 ≤ x1 - 250 ∧ x1 - 250 ≤ 249 := by omega
        have Y : -250 ≤ y1 - 250 ∧ y1 - 250 ≤ 249 := by omega
        clear PF PK HO HU HD K2 K3
        have C2 := hid (tri_few n3 (by omega) HF.out.ref g cp wr HPL.out hcn)
        go_wp2_with fail
        refine C2.out.mono ?_
        rintro e w2 ⟨hb2, g2, cp2, d2, M2, hs2, rfl, hd2, hp2, hTr2, hT2, hM2, hL2⟩
        have HB2 := hid hb2
        have HTR2 := hid hTr2
        have HT2 := hid hT2
        have HM2 := hid hM2
        have HL2 := hid hL2
        clear C2 hb2 hTr2 hT2 hM2 hL2
        have C3 := hid (tri_few n3 (by omega) (HF.out.ref_far X Y) gf cf w2 (HPF.out.below HB2.out HPF.out.lt) hcf)
        go_wp2_with fail
        refine C3.out.mono ?_
        rintro e w3 ⟨hb3, g3, cp3, d3, M3, hs3, rfl, hd3, hp3, hTr3, hT3, hM3, hL3⟩
        have HB3 := hid (HB2.out.trans (hb3.mono HB2.out.size))
        have HTR23 := hid (HTR2.out.below hb3)
        have HTR3 := hid hTr3
        have HT3 := hid hT3
        have HM3 := hid hM3
        have HL3 := hid hL3
        clear C3 hb3 hTr3 hT3 hM3 hL3 HTR2 HB2
        have C4 := hid (tri_few n3 (by omega) HF.out.ref_back gk ck w3 (HPK.out.below HB3.out HPK.out.lt) hck)
        go_wp2_with fail
        refine C4.out.mono ?_
        rintro e w4 ⟨hb4, g4, cp4, d4, M4, hs4, rfl, hd4, hp4, hTr4, hT4, hM4, hL4⟩
        have HB4 := hid (HB3.out.trans (hb4.mono HB3.out.size))
        have HTR24 := hid (HTR23.out.below hb4)
        have HTR34 := hid (HTR3.out.below hb4)
        have HTR4 := hid hTr4
        have HT4 := hid hT4
        have HM4 := hid hM4
        have HL4 := hid hL4
        clear C4 hb4 hTr4 hT4 hM4 hL4 HTR23 HTR3 HB3
        have LEN := moved_len HF.out X Y HM2.out HT2.out HM3.out HT3.out HM4.out HT4.out
        have S2 := hid (fun W (hW : Below w4.heap.size w4 W) => sane_few HF.out.bds HT2.out HM2.out g cp g2 cp2 W (HPL.out.below (HB4.out.trans (hW.mono HB4.out.size)) HPL.out.lt) (HTR24.out.below hW) hd2)
        have S3 := hid (fun W (hW : Below w4.heap.size w4 W) => sane_few (HF.out.bds_far X Y) HT3.out HM3.out gf cf g3 cp3 W (HPF.out.below (HB4.out.trans (hW.mono HB4.out.size)) HPF.out.lt) (HTR34.out.below hW) hd3)
        have S4 := hid (fun W (hW : Below w4.heap.size w4 W) => sane_few HF.out.bds_back HT4.out HM4.out gk ck g4 cp4 W (HPK.out.below (HB4.out.trans (hW.mono HB4.out.size)) HPK.out.lt) (HTR4.out.below hW) hd4)
        have Z2 := hid (fun a b W (hW : Below w4.heap.size w4 W) => side_any n g2 0 d2.size cp2 (dz d2) (dA d2) (dB d2) (dC d2) a b W (HTR24.out.below hW) (by omega) (HT2.out.row3 HM2.out.mesh))
        have Z3 := hid (fun a b W (hW : Below w4.heap.size w4 W) => side_any n g3 0 d3.size cp3 (dz d3) (dA d3) (dB d3) (dC d3) a b W (HTR34.out.below hW) (by omega) (HT3.out.row3 HM3.out.mesh))
        have Z4 := hid (fun a b W (hW : Below w4.heap.size w4 W) => side_any n g4 0 d4.size cp4 (dz d4) (dA d4) (dB d4) (dC d4) a b W (HTR4.out.below hW) (by omega) (HT4.out.row3 HM4.out.mesh))
        have UQ := hid (fun W (hW : Below w4.heap.size w4 W) => unique_any px py n g cp W (HPL.out.below (HB4.out.trans (hW.mono HB4.out.size)) HPL.out.lt) (by omega) HF.out.bds)
        have EQ := hid (fun (hf : Geo.Free px py n) a b (ha : a < n) (hb : b < a) => moved_eq HF.out hf HM2.out HT2.out HL2.out HM3.out HT3.out HL3.out HM4.out HT4.out HL4.out ha hb)
        rw [LEN.1] at S3 Z3 EQ ⊢
        rw [LEN.2] at S4 Z4 EQ ⊢
        have FB := hid (HB1.out.trans ((HB.out.trans (HB4.out.mono HB.out.size)).mono HB1.out.size))
        clear LEN HTR24 HTR34 HTR4 HT2 HT3 HT4 HM2 HM3 HM4 HL2 HL3 HL4 HPF HPK HPL hd3 hd4 hp3 hp4 X Y HB4 HB HB1
        obtain ⟨m, hm⟩ : ∃ m, m = d2.size := ⟨_, rfl⟩
        rw [← hm] at S2 S3 S4 Z2 Z3 Z4 EQ hd2 hp2 ⊢
        clear hm
        have dm : ((m : Int) == 0) = false := by simp; omega
        have dmm : ((m : Int) != (m : Int)) = false := by simp
        go_wp2_with fail
        refine (S2.out w4 (Below.refl _ _)).mono ?_
        rintro e w5 ⟨rfl, hb5⟩
        have HB5 := hid hb5
        clear hb5 S2
        go_wp2_with fail
        refine (S3.out w5 HB5.out).mono ?_
        rintro e w6 ⟨rfl, hb6⟩
        have HB6 := hid (HB5.out.trans (hb6.mono HB5.out.size))
        clear hb6 S3 HB5
        go_wp2_with fail
        refine (S4.out w6 HB6.out).mono ?_
        rintro e w7 ⟨rfl, hb7⟩
        have HB7 := hid (HB6.out.trans (hb7.mono HB6.out.size))
        clear hb7 S4 HB6
        go_wp2_with fail
        refine (UQ.out w7 HB7.out).mono ?_
        rintro e w8 ⟨⟨b, rfl, hfree⟩, hb8⟩
        have HB8 := hid (HB7.out.trans (hb8.mono HB7.out.size))
        have HFR := hid hfree
        clear hb8 UQ HB7 hfree
        have fin : Hid (∀ W, Below w4.heap.size w4 W → Below w.heap.size w W) := hid (fun W hW => FB.out.trans (hW.mono FB.out.size))
        cases b with
        | false =>
          go_wp2_with fail
          go_loopw [22] (fun i wr => i = .int .i64 0 ∧ Hid (Below w4.heap.size w4 wr)) (fun _ _ => 0)
          case atStart => exact ⟨rfl, HB8⟩
          case round =>
            obtain ⟨rfl, HB⟩ := hrel
            go_wp2_with fail
            go_ret
            exact ⟨rfl, fin.out _ HB.out⟩
        | true =>
          have HQ := hid (EQ.out (HFR.out rfl))
          clear EQ HFR
          go_wp2_with fail
          go_loopw [22] (fun i wr => ∃ i' : Nat, i' ≤ n ∧ i = .int .i64 i' ∧ Hid (Below w4.heap.size w4 wr)) (fun i _ => n - (intOf i).toNat)
          case atStart => exact ⟨0, Nat.zero_le _, rfl, HB8⟩
          case round =>
            obtain ⟨i, hi, rfl, HB⟩ := hrel
            by_cases hin : i < n
            · have hin' : (i : Int) < n := by omega
              obtain ⟨W0, rfl⟩ : ∃ W0, W0 = wr := ⟨wr, rfl⟩
              go_wp2_with fail
              go_loopw [23] (fun k wr => ∃ k' : Nat, k' ≤ i ∧ k = .int .i64 k' ∧ Hid (Below w4.heap.size w4 wr)) (fun k _ => i - (intOf k).toNat)
              case atStart => exact ⟨0, Nat.zero_le _, rfl, HB⟩
              case round =>
                clear HB
                obtain ⟨k, hk, rfl, HB⟩ := hrel
                by_cases hki : k < i
                · have hki' : (k : Int) < i := by omega
                  have Q := HQ.out i k hin hki
                  obtain ⟨sv, hsv⟩ : ∃ sv, sv = sideB (dA d2) (dB d2) (dC d2) i k m := ⟨_, rfl⟩
                  have z2 := Z2.out i k
                  have z3 := Z3.out i k
                  have z4 := Z4.out (rv n i) (rv n k)
                  rw [Q.1] at z3
                  rw [Q.2] at z4
                  rw [← hsv] at z2 z3 z4
                  clear hsv Q
                  obtain ⟨r, hr⟩ : ∃ r, r = rv n i := ⟨_, rfl⟩
                  obtain ⟨q, hq⟩ : ∃ q, q = rv n k := ⟨_, rfl⟩
                  rw [← hr, ← hq] at z4
                  have er : (n : Int) - 1 - (i : Int) = (r : Nat) := by rw [hr]; unfold rv; omega
                  have eq : (n : Int) - 1 - (k : Int) = (q : Nat) := by rw [hq]; unfold rv; omega
                  have c5 : IntKind.i64.wrap ((n : Int) - 1) = n - 1 := by rw [IntKind.wrap_i64]; omega
                  have c6 : IntKind.i64.wrap ((n : Int) - 1 - (i : Int)) = (r : Nat) := by rw [IntKind.wrap_i64]; omega
                  have c7 : IntKind.i64.wrap ((n : Int) - 1 - (k : Int)) = (q : Nat) := by rw [IntKind.wrap_i64]; omega
                  have ZZ2 := hid z2
                  have ZZ3 := hid z3
                  have ZZ4 := hid z4
                  clear z2 z3 z4 hr hq
                  go_wp2_with fail
                  refine (ZZ2.out _ HB.out).mono ?_
                  rintro e w9 ⟨rfl, hb9⟩
                  have HB9 := hid (HB.out.trans (hb9.mono HB.out.size))
                  clear hb9
                  go_wp2_with fail
                  refine (ZZ3.out _ HB9.out).mono ?_
                  rintro e w10 ⟨rfl, hb10⟩
                  have HB10 := hid (HB9.out.trans (hb10.mono HB9.out.size))
                  clear hb10
                  go_wp2_with fail
                  refine (ZZ4.out _ HB10.out).mono ?_
                  rintro e w11 ⟨rfl, hb11⟩
                  have HB11 := hid (HB10.out.trans (hb11.mono HB10.out.size))
                  clear hb11
                  have dsv : (sv != sv) = false := by simp
                  go_wp2_with fail
                  go_roundw
                  case rel => exact ⟨k + 1, by omega, by go_num, HB11⟩
                  case measure => simp [intOf]; omega
                · have hkk : i = k := by omega
                  subst hkk
                  go_wp2_with fail
                  go_roundw
                  case rel => exact ⟨i + 1, by omega, by go_num, HB⟩
                  case measure => simp [intOf]; omega
            · have hii : n = i := by omega
              subst hii
              go_wp2_with fail
              go_ret
              exact ⟨rfl, fin.out _ HB.out⟩
end Go.Proofs.YtdbebbbceeopaaaGreat
