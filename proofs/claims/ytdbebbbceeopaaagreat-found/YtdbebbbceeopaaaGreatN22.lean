import Derived.Test.YtdbebbbceeopaaaGreatN21
set_option linter.unusedSimpArgs false
namespace Go.Proofs.YtdbebbbceeopaaaGreat
open Go.RowKit Go.Maps
open Geo (up bad Waits Spent Wg VolG Quad flipM Mesh Cor Bowl lift)

def pickV : Option Value → Option Value → Option Nat
  | some (.int _ c), some (.bool true) => some c.toNat
  | _, _ => none

def optV : Value → Option Nat
  | .tuple vs => pickV (vs[0]? : Option Value) (vs[1]? : Option Value)
  | _ => none

def resV : Result Value → Option Nat
  | .ok v _ => optV v
  | _ => none

/-- How many wait, read off the world. -/
def lenW (w : World) (hb : Nat) : Nat := match w.cell? ⟨hb, 0, none⟩ with | some v => lenOf v | none => 0

theorem lenW_eq {w : World} {hb : Nat} {l : List (Nat × Nat)} (h : Hp w hb l) : lenW w hb = l.length := by
  obtain ⟨v, c, o⟩ := h.ex
  obtain ⟨a, c', rfl⟩ := owns_len2 o
  unfold lenW
  rw [c]
  rfl

theorem vol_congr {px py h : Nat → Int} {n : Nat} {M M' : Nat → Nat → Option Nat} (e : ∀ u v, u < n → v < n → M u v = M' u v) : VolG px py h n M = VolG px py h n M' := by
  unfold VolG Geo.Sd
  exact Geo.sm2_congr fun u v hu hv => by rw [e u v hu hv]

theorem look_res {w : World} {bm N : Nat} {M : Nat → Nat → Option Nat} (hM : MapAt w bm N M) {u v : Nat} (hu : u < 1000) (hv : v < 1000) : resV ((Instr.lookup 102 (.map (some bm)) (.agg #[.int .i64 u, .int .i64 v]) true).run Tryz.prog w) = M u v := by
  rw [hM.look hu hv]
  cases e : M u v with
  | none => rfl
  | some c => simp [valM, resV, optV, pickV]

/-- What is beneath the triangles, read off the world. -/
theorem vol_fn (px py h : Nat → Int) (n bm : Nat) (hn : n ≤ 40) : ∃ f : World → Nat, ∀ w N M, MapAt w bm N M → f w = (VolG px py h n M).toNat :=
  ⟨fun w => (VolG px py h n (fun u v => resV ((Instr.lookup 102 (.map (some bm)) (.agg #[.int .i64 u, .int .i64 v]) true).run Tryz.prog w))).toNat, fun _ _ _ hM =>
    congrArg Int.toNat (vol_congr fun _ _ hu hv => look_res hM (Nat.lt_of_lt_of_le hu (Nat.le_trans hn (by decide))) (Nat.lt_of_lt_of_le hv (Nat.le_trans hn (by decide))))⟩

theorem gr_below {w W W' : World} {bm : Nat} (h : w.grownBy W (some bm)) (hb : Below w.heap.size W W') : w.grownBy W' (some bm) :=
  ⟨hb.os.trans h.os, hb.tape.trans h.tape, hb.output.trans h.output, Nat.le_trans h.size hb.size, fun k hk hne => (hb.block k hk).trans (h.block k hk hne)⟩

theorem Hp.grown {w w' : World} {hb bm : Nat} {l : List (Nat × Nat)} (h : Hp w hb l) (hg : w.grownBy w' (some bm)) (hbm : bm < hb - 1) : Hp w' hb l := by
  obtain ⟨v, c, o⟩ := h.ex
  have ne : some hb ≠ some bm := fun e => by have := Option.some.inj e; omega
  refine Hp.of (hg.cell (a := ⟨hb, 0, none⟩) c ne) (o.kept hg (.inr (fun e => ?_))) ((World.frozen?_of_block (w := w) (a := ⟨hb, 0, none⟩) (hg.block hb h.lt ne)).trans h.fr) (h.ne v c)
  have := own_geH o _ e
  omega

/-- What is kept while sides are turned over. -/
structure Ti (px py h : Nat → Int) (n : Nat) (ok : Nat → Nat → Bool) (KP : (Nat → Nat → Option Nat) → Prop) (M : Nat → Nat → Option Nat) (l K : List (Nat × Nat)) : Prop where
  mesh : Mesh px py n M
  cor : Cor n M
  keep : KP M
  wait : Waits px py ok h M l
  spent : Spent px py h n M K
  len : l.length ≤ 1600 + 3 * K.length
  lt : ∀ x ∈ l, x.1 ≤ x.2 ∧ x.2 < n

theorem Ti.drop {px py h : Nat → Int} {n : Nat} {ok : Nat → Nat → Bool} {KP : (Nat → Nat → Option Nat) → Prop} {M : Nat → Nat → Option Nat} {l l1 K : List (Nat × Nat)} {x : Nat × Nat} (t : Ti px py h n ok KP M l K) (hp : l.Perm (x :: l1)) (hb : bad px py ok h M x.1 x.2 = false) : Ti px py h n ok KP M l1 K := by
  refine ⟨t.mesh, t.cor, t.keep, fun u v huv hbad => ?_, t.spent, ?_, fun y hy => t.lt y (hp.mem_iff.2 (List.mem_cons_of_mem _ hy))⟩
  · rcases List.mem_cons.1 (hp.mem_iff.1 (t.wait u v huv hbad)) with e | e
    · rw [← e] at hb
      dsimp only at hb
      rw [hb] at hbad
      cases hbad
    · exact e
  · have := hp.length_eq
    have := t.len
    simp at *
    omega

theorem Ti.turn {px py h : Nat → Int} {n : Nat} {ok : Nat → Nat → Bool} {KP : (Nat → Nat → Option Nat) → Prop} {M : Nat → Nat → Option Nat} {l l1 l5 K : List (Nat × Nat)} {x : Nat × Nat} {c d : Nat} (t : Ti px py h n ok KP M l K) (hbw : Bowl px py h)
    (hKP : ∀ M a b c d, Mesh px py n M → Quad px py M a b c d → ok a b = true → KP M → KP (flipM M a b c d)) (hp : l.Perm (x :: l1)) (hok : ok x.1 x.2 = true) (e1 : M x.1 x.2 = some c) (e2 : M x.2 x.1 = some d) (hw : 0 < Wg px py h x.1 x.2 c d) (hx : x.1 < x.2)
    (hp5 : l5.Perm (up c x.1 :: up x.2 c :: up d x.2 :: up x.1 d :: l1)) : Ti px py h n ok KP (flipM M x.1 x.2 c d) l5 ((x.1, x.2) :: K) := by
  have q := t.mesh.quadG hbw e1 e2 hw
  have l1' := t.mesh.lts e1
  have l2' := t.mesh.lts e2
  have es : ∀ a b, up a b = up b a := fun a b => by unfold up; rw [Nat.min_comm, Nat.max_comm]
  have ex : up x.1 x.2 = x := up_lt hx
  refine ⟨t.mesh.flipQ q, flip_cor q t.cor, hKP M _ _ _ _ t.mesh q hok t.keep, t.wait.flip q hw (fun y hy => ?_) ?_ ?_ ?_ ?_, t.spent.flip t.mesh q hw, ?_, fun y hy => ?_⟩
  · rcases List.mem_cons.1 (hp.mem_iff.1 hy) with e | e
    · exact .inl (by rw [ex]; exact e)
    · exact .inr (hp5.mem_iff.2 (by simp [e]))
  · exact hp5.mem_iff.2 (by simp)
  · exact hp5.mem_iff.2 (by simp)
  · exact hp5.mem_iff.2 (by simp)
  · exact hp5.mem_iff.2 (by simp)
  · have h1 := hp5.length_eq
    have h2 := hp.length_eq
    have := t.len
    simp at *
    omega
  · have upl : ∀ a b, a < n → b < n → (up a b).1 ≤ (up a b).2 ∧ (up a b).2 < n := fun a b ha hb => by unfold up; exact ⟨by omega, by omega⟩
    have hm := hp5.mem_iff.1 hy
    simp only [List.mem_cons] at hm
    rcases hm with rfl | rfl | rfl | rfl | hm
    · exact upl _ _ l1'.2.2 l1'.1
    · exact upl _ _ l1'.2.1 l1'.2.2
    · exact upl _ _ l2'.2.2 l1'.2.1
    · exact upl _ _ l1'.1 l2'.2.2
    · exact t.lt y (hp.mem_iff.2 (List.mem_cons_of_mem _ hm))
end Go.Proofs.YtdbebbbceeopaaaGreat

set_option linter.unusedSimpArgs false
namespace Go.Proofs.YtdbebbbceeopaaaGreat
open Go.RowKit Go.Maps
open Geo (up bad Waits Spent Wg VolG Quad flipM Mesh Cor Bowl lift)

theorem MeshAt.tight {w : World} {mb bm N pb po n cap : Nat} {px py : Nat → Int} {M : Nat → Nat → Option Nat} {lv : Value} {ls : List (Nat × Nat)} (h : MeshAt w mb bm N pb po n cap px py M lv ls) (hm : Mesh px py n M) (hn : n ≤ 40) : MeshAt w mb bm 1600 pb po n cap px py M lv ls :=
  ⟨h.c0, h.c1, h.c2, h.f2, h.ln, h.nl, h.plc, h.map.tight (fun u v _ _ k => by
    cases e : M u v with
    | none => rfl
    | some c => have := hm.lts e; omega), h.ne, h.np⟩

theorem Tryz.ix0 (a b c d e f g h : Value) (W : World) : (Instr.index 146 (.agg #[a, b, c, d, e, f, g, h]) (.int .i64 0)).run Tryz.prog W = .ok (.agg #[a, b]) W := by kernel_rfl
theorem Tryz.ix1 (a b c d e f g h : Value) (W : World) : (Instr.index 146 (.agg #[a, b, c, d, e, f, g, h]) (.int .i64 1)).run Tryz.prog W = .ok (.agg #[c, d]) W := by kernel_rfl
theorem Tryz.ix2 (a b c d e f g h : Value) (W : World) : (Instr.index 146 (.agg #[a, b, c, d, e, f, g, h]) (.int .i64 2)).run Tryz.prog W = .ok (.agg #[e, f]) W := by kernel_rfl
theorem Tryz.ix3 (a b c d e f g h : Value) (W : World) : (Instr.index 146 (.agg #[a, b, c, d, e, f, g, h]) (.int .i64 3)).run Tryz.prog W = .ok (.agg #[g, h]) W := by kernel_rfl

theorem wait_step {w W : World} {hb mb bm N pb po n cap a b : Nat} {px py : Nat → Int} {M : Nat → Nat → Option Nat} {lv : Value} {ls l : List (Nat × Nat)} (hhb : hb = w.heap.size + 1) (HM : MeshAt W mb bm N pb po n cap px py M lv ls) (HP : Hp W hb l) (HG : w.grownBy W (some bm)) (h1 : mb < w.heap.size) (h2 : pb < w.heap.size) (h3 : ∀ g, lv.ownBlock = some g → g < w.heap.size) (bl : bm < w.heap.size) (hl : l.length ≤ 90000) :
    Calls Tryz.prog 72 #[.pointer (some ⟨hb, 0, none⟩), .agg #[.int .i64 (a : Nat), .int .i64 (b : Nat)]] (W.alloc (.cells #[.int .i64 (a : Nat), .int .i64 (b : Nat)] 110)) fun e w' => e = .returned (.tuple #[]) ∧ (∃ l', Hp w' hb l' ∧ l'.Perm (up a b :: l)) ∧ MeshAt w' mb bm N pb po n cap px py M lv ls ∧ w.grownBy w' (some bm) := by
  have B1 : Below W.heap.size W (W.alloc (.cells #[.int .i64 (a : Nat), .int .i64 (b : Nat)] 110)) := (Below.refl _ _).alloc (Nat.le_refl _) _
  have HP1 := HP.below B1 (Nat.le_refl _)
  refine (wait_any hb a b l _ HP1 hl).mono ?_
  rintro e w' ⟨rfl, ⟨l', hp, hpm⟩, hf⟩
  have B2 : Below w.heap.size W w' := (B1.mono HG.size).trans (hf.belowB HP1 (by omega) (Nat.le_trans HG.size B1.size))
  exact ⟨rfl, ⟨l', hp, hpm⟩, HM.belowB B2 h1 bl h2 h3, gr_below HG B2⟩

set_option maxRecDepth 100000 in
set_option maxHeartbeats 8000000 in
theorem turnAll_any (mb bm pb po n cap : Nat) (px py h : Nat → Int) (M0 : Nat → Nat → Option Nat) (lv : Value) (ls : List (Nat × Nat)) (ok : Nat → Nat → Bool) (KP : (Nat → Nat → Option Nat) → Prop) (first caps : Array Value) (w : World) (hn : n ≤ 40) (hM : MeshAt w mb bm 1600 pb po n cap px py M0 lv ls) (hm0 : Mesh px py n M0) (hc0 : Cor n M0) (hk0 : KP M0)
    (hbw : Bowl px py h) (hh : ∀ i, 0 ≤ h i) (hsy : ∀ u v, ok u v = ok v u)
    (hKP : ∀ M a b c d, Mesh px py n M → Quad px py M a b c d → ok a b = true → KP M → KP (flipM M a b c d))
    (hcl : ∀ (W : World) (M : Nat → Nat → Option Nat) (u v : Nat), MeshAt W mb bm 1600 pb po n cap px py M lv ls → Mesh px py n M → Below w.heap.size w W ∨ w.grownBy W (some bm) → u < n → v < n → Calls Tryz.prog 77 (first.push (.agg #[.int .i64 (u : Nat), .int .i64 (v : Nat)]) ++ caps) W fun e w' => e = .returned (.bool (bad px py ok h M u v)) ∧ Below W.heap.size W w') :
    Calls Tryz.prog 76 #[.pointer (some ⟨mb, 0, none⟩), .func (.func 77) first caps] w fun e w' => e = .returned (.tuple #[]) ∧ w.grownBy w' (some bm) ∧
      ∃ M, MeshAt w' mb bm 1600 pb po n cap px py M lv ls ∧ Mesh px py n M ∧ Cor n M ∧ KP M ∧ ∀ u v, bad px py ok h M u v = false := by
  obtain ⟨vf, hvf⟩ := vol_fn px py h n bm hn
  have VF := hid hvf
  have SD := hid (sides_any mb bm 1600 pb po n cap px py M0 lv ls w hM (by omega) (fun a b c e => ⟨(hm0.lts e).1, (hm0.lts e).2.1⟩) hn)
  have H1 := hid (World.block_lt_of_cell? w _ hM.c0)
  have H2 := hid hM.plc.lt
  have H3 := hid (own_lt2 hM.ln)
  have bl := hid hM.map.lt
  have HM0 := hid hM
  have CL := hid hcl
  have KPP := hid hKP
  clear hvf hM hcl hKP
  obtain ⟨hb, hhb⟩ : ∃ hb, hb = w.heap.size + 1 := ⟨_, rfl⟩
  have HHB := hid hhb
  rw [← hhb] at SD
  clear hhb
  go_enter Tryz.func76, Tryz.ntmps76
  go_wp2_with fail
  refine SD.out.mono ?_
  rintro e w0 ⟨rfl, hb0, l0, hp0, hl0, hin0, hln0⟩
  have HM0' : Hid (MeshAt w0 mb bm 1600 pb po n cap px py M0 lv ls) := hid (HM0.out.below hb0)
  have G0 : Hid (w.grownBy w0 (some bm)) := hid (grown_below _ hb0)
  have T0 : Hid (Ti px py h n ok KP M0 l0 []) := hid ⟨hm0, hc0, hk0, fun u v huv hbad => by
    obtain ⟨_, c, d, e1, _, _⟩ := Geo.bad_inv hbad
    exact hin0 u v huv (by rw [e1]; rfl), Spent.nil, by simp; omega, hln0⟩
  have HP0 := hid hp0
  clear hb0 hp0 hl0 hin0 hln0 SD
  go_wp2_with fail
  go_loopw [5, 7] (fun _ _ wr => ∃ (M : Nat → Nat → Option Nat) (l K : List (Nat × Nat)), Hid (MeshAt wr mb bm 1600 pb po n cap px py M lv ls) ∧ Hid (Ti px py h n ok KP M l K) ∧ Hid (Hp wr hb l) ∧ Hid (w.grownBy wr (some bm))) (fun _ _ wr => vf wr * 5 + lenW wr hb)
  case atStart => exact ⟨M0, l0, [], HM0', T0, HP0, G0⟩
  case round =>
    obtain ⟨M, l, K, HM, HT, HP, HG⟩ := hrel
    clear HM0' T0 HP0 G0
    have hlen : l.length ≤ 6400 := by have := HT.out.len; have := HT.out.spent.len hn; omega
    obtain ⟨v, c0, ho⟩ := HP.out.ex
    obtain ⟨a1, c1, hv⟩ := owns_len2 ho
    subst hv
    have HLN := hid (len_any a1 l.length c1 wr)
    clear ho
    by_cases hl : l.length = 0
    · have hle : l = [] := List.eq_nil_of_length_eq_zero hl
      have DONE : Hid (∀ u v, bad px py ok h M u v = false) := hid (Waits.done hsy HT.out.mesh (by rw [← hle]; exact HT.out.wait))
      rw [hl] at c0 HLN
      go_wp2_with fail
      refine HLN.out.mono ?_
      rintro e w1 ⟨rfl, rfl⟩
      go_wp2_with fail
      go_end0
      exact ⟨rfl, HG.out, M, HM.out, HT.out.mesh, HT.out.cor, HT.out.keep, DONE.out⟩
    · have hd : decide ((0 : Int) < (l.length : Int)) = true := by simp; omega
      have NX := hid (next_any hb l wr HP.out (by omega) (by omega))
      go_wp2_with fail
      refine HLN.out.mono ?_
      rintro e w1 ⟨rfl, rfl⟩
      go_wp2_with fail
      refine NX.out.mono ?_
      rintro e w2 ⟨⟨x, l1, rfl, hp2, hpm⟩, hf2⟩
      have B2 : Below w.heap.size w1 w2 := hf2.belowB HP.out (by have := HHB.out; omega) HG.out.size
      have hxl := HT.out.lt x (hpm.mem_iff.2 List.mem_cons_self)
      obtain ⟨W2, hW2⟩ : ∃ W2, W2 = w2.alloc (.cells #[.int .i64 (x.1 : Nat), .int .i64 (x.2 : Nat)] 110) := ⟨_, rfl⟩
      have B2' : Hid (Below w2.heap.size w2 W2) := hid (by rw [hW2]; exact (Below.refl _ _).alloc (Nat.le_refl _) _)
      have HM2 := hid ((HM.out.belowB B2 H1.out bl.out H2.out H3.out).below B2'.out)
      have HG2 := hid (gr_below (gr_below HG.out B2) (B2'.out.mono (Nat.le_trans HG.out.size B2.size)))
      have HP2 := hid (hp2.below B2'.out (Nat.le_refl _))
      have HPM := hid hpm
      have hl1 : l.length = l1.length + 1 := by rw [hpm.length_eq]; rfl
      have CALL := hid (CL.out W2 M x.1 x.2 HM2.out HT.out.mesh (.inr HG2.out) (by omega) hxl.2)
      have x0 : W2.cell? ⟨w2.heap.size, 0, none⟩ = some (.int .i64 (x.1 : Nat)) := by rw [hW2]; exact World.cell?_alloc_at _ _ _ _ rfl
      have x1 : W2.cell? ⟨w2.heap.size, 1, none⟩ = some (.int .i64 (x.2 : Nat)) := by rw [hW2]; exact World.cell?_alloc_at _ _ _ _ rfl
      have xlt : Hid (w2.heap.size < W2.heap.size) := hid (World.block_lt_of_cell? W2 _ x0)
      have XX : Hid (W2.cell? ⟨w2.heap.size, 0, none⟩ = some (.int .i64 (x.1 : Nat)) ∧ W2.cell? ⟨w2.heap.size, 1, none⟩ = some (.int .i64 (x.2 : Nat))) := hid ⟨x0, x1⟩
      rw [hW2] at x0 x1
      clear hp2 hf2 hpm B2 c0 NX HLN
      go_wp2_with fail
      rw [← hW2]
      clear hW2
      refine CALL.out.mono ?_
      rintro e w3 ⟨rfl, hb3⟩
      have HM3 := hid (HM2.out.below hb3)
      have HG3 := hid (gr_below HG2.out (hb3.mono HG2.out.size))
      have HP3 := hid (HP2.out.below hb3 (Nat.le_refl _))
      have XC : Hid (w3.cell? ⟨w2.heap.size, 0, none⟩ = some (.int .i64 (x.1 : Nat)) ∧ w3.cell? ⟨w2.heap.size, 1, none⟩ = some (.int .i64 (x.2 : Nat))) := hid ⟨(hb3.cell (p := ⟨w2.heap.size, 0, none⟩) xlt.out).trans XX.out.1, (hb3.cell (p := ⟨w2.heap.size, 1, none⟩) xlt.out).trans XX.out.2⟩
      have LW := hid (lenW_eq HP.out)
      have VW := hid (VF.out _ _ _ HM.out.map)
      clear hb3 CALL x0 x1 HM2 HG2 HP2 B2' XX
      obtain ⟨bb, hbb⟩ : ∃ bb, bb = bad px py ok h M x.1 x.2 := ⟨_, rfl⟩
      rw [← hbb]
      have HBB := hid hbb
      clear hbb
      cases bb
      · have T1 : Hid (Ti px py h n ok KP M l1 K) := hid (HT.out.drop HPM.out HBB.out.symm)
        go_wp2_with fail
        go_roundw
        case rel => exact ⟨M, l1, K, HM3, T1, HP3, HG3⟩
        case measure => rw [lenW_eq HP3.out, LW.out, VW.out, VF.out _ _ _ HM3.out.map]; omega
      · obtain ⟨hok, c, d, e1, e2, hw⟩ := Geo.bad_inv HBB.out.symm
        have lc := HT.out.mesh.lts e1
        have ld := HT.out.mesh.lts e2
        have hxx : x.1 < x.2 := by
          have := Geo.T_ne12 (HT.out.mesh.pos _ _ _ e1)
          omega
        have TO := hid (turnOver_any mb bm 1600 pb po n cap x.1 x.2 c d px py M lv ls w3 hn HM3.out (by omega) lc.1 lc.2.1 lc.2.2 ld.2.2 e1 e2)
        have q := HT.out.mesh.quadG hbw e1 e2 hw
        have FL := hid (turn_flip q)
        have VOL := hid (Geo.flip_VolG HT.out.mesh h q)
        have NN := hid (Geo.volG_nonneg (HT.out.mesh.flipQ q) hh)
        have MF := hid (HT.out.mesh.flipQ q)
        have TT := hid (fun l5 hp5 => HT.out.turn (l5 := l5) hbw KPP.out HPM.out hok e1 e2 hw hxx hp5)
        have HW := hid hw
        clear q e1 e2 hw hok
        have xc0 := XC.out.1
        have xc1 := XC.out.2
        generalize hx1 : x.1 = xa at *
        generalize hx2 : x.2 = xb at *
        go_wp2_with fail
        refine TO.out.mono ?_
        rintro e w4 ⟨rfl, hm4, hg4⟩
        rw [FL.out] at hm4
        have HM4 := hid (hm4.tight MF.out hn)
        have HG4 := hid (gr_trans HG3.out hg4)
        have HP4 := hid (HP3.out.grown hg4 (by have := HHB.out; have := bl.out; omega))
        clear hm4 hg4 xc0 xc1 TO HM3 HG3 HP3 XC
        go_wp2_with fail
        have ix0 := Tryz.ix0 (.int .i64 (xa : Nat)) (.int .i64 (d : Nat)) (.int .i64 (d : Nat)) (.int .i64 (xb : Nat)) (.int .i64 (xb : Nat)) (.int .i64 (c : Nat)) (.int .i64 (c : Nat)) (.int .i64 (xa : Nat))
        have ix1 := Tryz.ix1 (.int .i64 (xa : Nat)) (.int .i64 (d : Nat)) (.int .i64 (d : Nat)) (.int .i64 (xb : Nat)) (.int .i64 (xb : Nat)) (.int .i64 (c : Nat)) (.int .i64 (c : Nat)) (.int .i64 (xa : Nat))
        have ix2 := Tryz.ix2 (.int .i64 (xa : Nat)) (.int .i64 (d : Nat)) (.int .i64 (d : Nat)) (.int .i64 (xb : Nat)) (.int .i64 (xb : Nat)) (.int .i64 (c : Nat)) (.int .i64 (c : Nat)) (.int .i64 (xa : Nat))
        have ix3 := Tryz.ix3 (.int .i64 (xa : Nat)) (.int .i64 (d : Nat)) (.int .i64 (d : Nat)) (.int .i64 (xb : Nat)) (.int .i64 (xb : Nat)) (.int .i64 (c : Nat)) (.int .i64 (c : Nat)) (.int .i64 (xa : Nat))
        refine wp_loop_rounds 5 ?_
        have WS1 := hid (wait_step (a := xa) (b := d) HHB.out HM4.out HP4.out HG4.out H1.out H2.out H3.out bl.out (by omega))
        rw [rounds_succ]
        go_wp2_with fail
        refine WS1.out.mono ?_
        rintro e w5 ⟨rfl, ⟨l2, hpx, hpm1⟩, hmx, hgx⟩
        have HP5 := hid hpx
        have HM5 := hid hmx
        have HG5 := hid hgx
        have PM1 := hid hpm1
        have hl5 : l2.length = l1.length + 1 := by rw [hpm1.length_eq]; rfl
        clear hpx hmx hgx hpm1 WS1
        go_wp2_with fail
        have WS2 := hid (wait_step (a := d) (b := xb) HHB.out HM5.out HP5.out HG5.out H1.out H2.out H3.out bl.out (by omega))
        rw [rounds_succ]
        go_wp2_with fail
        refine WS2.out.mono ?_
        rintro e w6 ⟨rfl, ⟨l3, hpx, hpm2⟩, hmx, hgx⟩
        have HP6 := hid hpx
        have HM6 := hid hmx
        have HG6 := hid hgx
        have PM2 := hid hpm2
        have hl6 : l3.length = l2.length + 1 := by rw [hpm2.length_eq]; rfl
        clear hpx hmx hgx hpm2 WS2
        go_wp2_with fail
        have WS3 := hid (wait_step (a := xb) (b := c) HHB.out HM6.out HP6.out HG6.out H1.out H2.out H3.out bl.out (by omega))
        rw [rounds_succ]
        go_wp2_with fail
        refine WS3.out.mono ?_
        rintro e w7 ⟨rfl, ⟨l4, hpx, hpm3⟩, hmx, hgx⟩
        have HP7 := hid hpx
        have HM7 := hid hmx
        have HG7 := hid hgx
        have PM3 := hid hpm3
        have hl7 : l4.length = l3.length + 1 := by rw [hpm3.length_eq]; rfl
        clear hpx hmx hgx hpm3 WS3
        go_wp2_with fail
        have WS4 := hid (wait_step (a := c) (b := xa) HHB.out HM7.out HP7.out HG7.out H1.out H2.out H3.out bl.out (by omega))
        rw [rounds_succ]
        go_wp2_with fail
        refine WS4.out.mono ?_
        rintro e w8 ⟨rfl, ⟨l5, hpx, hpm4⟩, hmx, hgx⟩
        have HP8 := hid hpx
        have HM8 := hid hmx
        have HG8 := hid hgx
        have PM4 := hid hpm4
        have hl8 : l5.length = l4.length + 1 := by rw [hpm4.length_eq]; rfl
        clear hpx hmx hgx hpm4 WS4
        go_wp2_with fail
        rw [rounds_succ]
        go_wp2_with fail
        have T5 := hid (TT.out l5 (PM4.out.trans ((PM3.out.trans ((PM2.out.trans (PM1.out.cons _)).cons _)).cons _)))
        go_roundw
        case rel => exact ⟨_, l5, _, HM8, T5, HP8, HG8⟩
        case measure =>
          rw [lenW_eq HP8.out, LW.out, VW.out, VF.out _ _ _ HM8.out.map, VOL.out]
          have := HW.out
          have := NN.out
          rw [VOL.out] at this
          omega
end Go.Proofs.YtdbebbbceeopaaaGreat

set_option linter.unusedSimpArgs false
namespace Go.Proofs.YtdbebbbceeopaaaGreat
open Go.RowKit Go.Maps
open Geo (up bad Mesh Cor Quad flipM lift bowl_lift)

theorem lift_nonneg (px py : Nat → Int) (i : Nat) : 0 ≤ lift px py i := Geo.sq_nonneg' _ _

set_option maxHeartbeats 1000000 in
theorem round_any (mb bm pb po n cap : Nat) (px py : Nat → Int) (M0 : Nat → Nat → Option Nat) (lv : Value) (ls : List (Nat × Nat)) (KP : (Nat → Nat → Option Nat) → Prop) (w : World) (hn : n ≤ 40) (hM : MeshAt w mb bm 1600 pb po n cap px py M0 lv ls) (hls : ls.length ≤ 100000) (hm0 : Mesh px py n M0) (hc0 : Cor n M0) (hk0 : KP M0)
    (hKP : ∀ M a b c d, Mesh px py n M → Quad px py M a b c d → okL ls a b = true → KP M → KP (flipM M a b c d)) :
    Calls Tryz.prog 43 #[.pointer (some ⟨mb, 0, none⟩)] w fun e w' => e = .returned (.tuple #[]) ∧ w.grownBy w' (some bm) ∧
      ∃ M, MeshAt w' mb bm 1600 pb po n cap px py M lv ls ∧ Mesh px py n M ∧ Cor n M ∧ KP M ∧ ∀ u v, bad px py (okL ls) (lift px py) M u v = false := by
  have TA := hid (turnAll_any mb bm pb po n cap px py (lift px py) M0 lv ls (okL ls) KP #[.pointer (some ⟨mb, 0, none⟩)] #[] w hn hM hm0 hc0 hk0 bowl_lift (lift_nonneg px py) (okL_symm ls) hKP
    (fun W M u v hMW hmm _ hu hv => isPointed_any mb bm 1600 pb po n cap u v px py M lv ls W hn hMW hls hu hv (fun a b c e => (hmm.lts e).2.2)))
  clear hM hm0 hc0 hk0 hKP
  go_enter Tryz.func43, Tryz.ntmps43
  go_wp2_with fail
  refine TA.out.mono ?_
  rintro e w1 ⟨rfl, hg, hr⟩
  have HR := hid hr
  have HG := hid hg
  clear hr hg
  go_wp2_with fail
  go_end0
  exact ⟨rfl, HG.out, HR.out⟩

set_option maxHeartbeats 1000000 in
/-- No lines are drawn. -/
theorem draw_nil (mb : Nat) (w : World) :
    Calls Tryz.prog 42 #[.pointer (some ⟨mb, 0, none⟩), .slice none 0 0] w fun e w' => e = .returned (.tuple #[]) ∧ Below w.heap.size w w' := by
  have LN := hid (fun W => len_any (some ⟨w.heap.size, 0, none⟩) 0 0 W)
  have BB : Hid (Below w.heap.size w ((w.alloc (.cells #[] 110)).alloc (.cells #[.slice (some ⟨w.heap.size, 0, none⟩) 0 0] 107))) := hid (((Below.refl _ _).alloc (Nat.le_refl _) _).alloc (by simp) _)
  go_enter Tryz.func42, Tryz.ntmps42
  go_wp2_with fail
  refine wp_loop_rounds 1 ?_
  rw [rounds_succ]
  go_wp2_with fail
  refine wp_loop_rounds 1 ?_
  rw [rounds_succ]
  go_wp2_with fail
  refine (LN.out _).mono ?_
  rintro e w1 ⟨rfl, rfl⟩
  go_wp2_with fail
  go_end0
  exact ⟨rfl, BB.out⟩
end Go.Proofs.YtdbebbbceeopaaaGreat
