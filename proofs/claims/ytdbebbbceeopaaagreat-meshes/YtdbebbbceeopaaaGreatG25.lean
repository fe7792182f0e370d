import Derived.Test.YtdbebbbceeopaaaGreatG24
import Derived.Test.YtdbebbbceeopaaaGreatG21
import Derived.Test.YtdbebbbceeopaaaGreatG16
set_option linter.unusedSimpArgs false
namespace Go.Proofs.YtdbebbbceeopaaaGreat
open Go.RowKit Go.Maps
open Go.Sort (SortedIn)
open Geo (Mesh Cor Quad flipM Sd bad lift Inj)

set_option maxHeartbeats 1000000 in
theorem allJoin_nil (a : Option Addr) (n cap : Nat) (w : World) :
    Calls Tryz.prog 69 #[.slice a n cap, .slice none 0 0] w fun e w' => e = .returned (.bool true) ∧ w' = w := by
  go_enter Tryz.func69, Tryz.ntmps69
  go_wp2
  refine wp_loop_rounds 1 ?_
  rw [rounds_succ]
  go_wp2
  go_ret
  exact ⟨rfl, rfl⟩

set_option maxHeartbeats 1000000 in
theorem inWay_nil (a : Option Addr) (n cap : Nat) (w : World) :
    Calls Tryz.prog 70 #[.slice a n cap, .slice none 0 0] w fun e w' => e = .returned (.bool false) ∧ Below w.heap.size w w' := by
  go_enter Tryz.func70, Tryz.ntmps70
  go_wp2
  refine wp_loop_rounds 1 ?_
  rw [rounds_succ]
  go_wp2
  go_ret
  exact ⟨rfl, (Below.refl _ _).alloc (Nat.le_refl _) _⟩

set_option maxHeartbeats 1000000 in
theorem lineRef_nil (px py : Nat → Int) (n qb qo cap : Nat) (w : World) (hp : Pts w qb qo n px py) (hn : n ≤ 40) (hbd : ∀ i, i < n → (-1000 ≤ px i ∧ px i ≤ 1000) ∧ (-1000 ≤ py i ∧ py i ≤ 1000)) :
    Calls Tryz.prog 40 #[.slice (some ⟨qb, qo, none⟩) n cap, .slice none 0 0] w fun e w' => e = .returned (.int .i64 0) ∧ Below w.heap.size w w' := by
  have C1 := hid (allJoin_nil (some ⟨qb, qo, none⟩) n cap w)
  have C2 := hid (places_any px py n qb qo cap w hp hn hbd)
  have C3 := hid (fun W => inWay_nil (some ⟨w.heap.size, 0, none⟩) n n W)
  clear hp hbd
  go_enter Tryz.func40, Tryz.ntmps40
  go_wp2_with fail
  refine C1.out.mono ?_
  rintro e w1 ⟨rfl, rfl⟩
  go_wp2_with fail
  refine C2.out.mono ?_
  rintro e w2 ⟨rfl, hb2, _⟩
  have HB2 := hid hb2
  clear hb2
  go_wp2_with fail
  refine (C3.out w2).mono ?_
  rintro e w3 ⟨rfl, hb3⟩
  have HB3 := hid (HB2.out.trans (hb3.mono HB2.out.size))
  clear hb3
  go_wp2_with fail
  go_ret
  exact ⟨rfl, HB3.out⟩

theorem sum_flip {px py : Nat → Int} {n : Nat} {M : Nat → Nat → Option Nat} {a b c d : Nat} (hm : Mesh px py n M) (q : Quad px py M a b c d) : Sd n (flipM M a b c d) (fun u v _ => Geo.c2 px py u v) = Sd n M (fun u v _ => Geo.c2 px py u v) := by
  have h1 := are_c2 (hm.flipQ q)
  have h2 := are_c2 hm
  have h3 := Geo.flip_Are hm q
  omega

/-- What comes of points: a mesh of them as round as can be, its triangles in order. -/
structure Msh (px py : Nat → Int) (n : Nat) (M : Nat → Nat → Option Nat) (hs : List Nat) : Prop where
  mesh : Mesh px py n M
  cor : Cor n M
  sum : Sd n M (fun u v _ => Geo.c2 px py u v) = fanI px py hs (hs.length - 2)
  hull : Geo.IsHull px py n hs
  hl : ∀ y ∈ hs, y < n
  hlen : hs.length ≤ 40
  h3 : 3 ≤ hs.length
  ord : ∃ os : List Nat, (3 ≤ os.length ∧ os.Pairwise (Geo.Lt Geo.Lex px py) ∧ ∀ p, p ∈ os ↔ p < n) ∧ hs = hullOf (T px py) os ∧ Geo.Reach px py n (mesh0 px py os) M

theorem getD_mem {h : List Nat} {y : Nat} (hy : y ∈ h) : ∃ i, i < h.length ∧ h.getD i 0 = y := by
  obtain ⟨i, hi, rfl⟩ := List.getElem_of_mem hy
  exact ⟨i, hi, by simp [List.getD_eq_getElem?_getD, hi]⟩

theorem hull_len {px py : Nat → Int} {n : Nat} {h : List Nat} (H : Geo.IsHull px py n h) : h.length ≤ n := by
  have hnd : h.Nodup := by
    rw [List.nodup_iff_pairwise_ne, List.pairwise_iff_getElem]
    intro i j hi hj hij
    have := H.inj i j hij hj
    simpa [List.getD_eq_getElem?_getD, hi, hj] using this
  have := Geo.sub_len h (List.range n) hnd (fun y hy => by
    obtain ⟨i, hi, rfl⟩ := getD_mem hy
    exact List.mem_range.2 (H.lt i hi))
  simpa using this

theorem ord0 {px py : Nat → Int} {n : Nat} [NeZero n] {d : Array (Fin n)} (h3 : 3 ≤ n) (hr : refI px py n = 0) (hd : d.size = n) (hp : d.toList.Perm (List.finRange n)) (hs : SortedIn (ltOf (cfI px py)) 0 n d) : 3 ≤ (nums d).length ∧ (nums d).Pairwise (Geo.Lt Geo.Lex px py) ∧ ∀ p, p ∈ nums d ↔ p < n :=
  ⟨by rw [nums_len, hd]; exact h3, nums_sorted hd hp hs (refI_ne hr), nums_mem hp⟩

theorem msh0 {px py : Nat → Int} {n : Nat} [NeZero n] {d : Array (Fin n)} (h3 : 3 ≤ n) (hn : n ≤ 40) (hr : refI px py n = 0) (hd : d.size = n) (hp : d.toList.Perm (List.finRange n)) (hs : SortedIn (ltOf (cfI px py)) 0 n d) : Msh px py n (mesh0 px py (nums d)) (hullOf (T px py) (nums d)) := by
  have hne := refI_ne hr
  have hw := refI_wide h3 hr
  have H := hullOf_isHull h3 hd hp hs hne hw
  obtain ⟨i, hi, hT⟩ := hw
  have hmem := nums_mem hp
  have wide : Geo.Wide px py (nums d) := ⟨0, (hmem 0).2 (by omega), 1, (hmem 1).2 (by omega), i, (hmem i).2 hi, hT⟩
  have h := mesh0_ok (n := n) (os := nums d) (by rw [nums_len, hd]; exact h3) (nums_sorted hd hp hs hne) hmem wide
  exact ⟨h.1, h.2.1, h.2.2, H, (fun y hy => by obtain ⟨j, hj, rfl⟩ := getD_mem hy; exact H.lt j hj), by have := hull_len H; omega, H.len, ⟨nums d, ord0 h3 hr hd hp hs, rfl, .refl⟩⟩

theorem one_tri {px py : Nat → Int} {n : Nat} {M : Nat → Nat → Option Nat} (hm : Mesh px py n M) (hc : Cor n M) (h1 : 0 < n) : ∃ a b c, M a b = some c ∧ a < b ∧ a < c := by
  obtain ⟨x, y, e⟩ := hc 0 h1
  have e2 := hm.cyc _ _ _ e
  have e3 := hm.cyc _ _ _ e2
  rcases least hm e with k | k | k
  · exact ⟨_, _, _, e, k.1, k.2⟩
  · exact ⟨_, _, _, e2, k.1, k.2⟩
  · exact ⟨_, _, _, e3, k.1, k.2⟩

theorem loc_of {px py : Nat → Int} {M : Nat → Nat → Option Nat} (h : ∀ u v, bad px py (okL []) (lift px py) M u v = false) : Geo.Loc px py M := by
  intro a b c d e1 e2
  rcases Int.lt_or_le 0 (Geo.Wn px py a b c d) with k | k
  · have hb := Geo.bad_of (px := px) (py := py) (ok := okL []) (h := lift px py) (u := a) (v := b) rfl e1 e2 (by rw [Geo.Wg_lift]; exact k)
    rw [h a b] at hb
    cases hb
  · exact k

set_option maxRecDepth 100000 in
set_option maxHeartbeats 2000000 in
theorem bound_ok (px py : Nat → Int) (n : Nat) [NeZero n] (qb qo cap : Nat) (w : World) (hp : Pts w qb qo n px py) (h3 : 3 ≤ n) (hn : n ≤ 40) (hcap : n ≤ cap) (hr : refI px py n = 0) :
    Calls Tryz.prog 25 #[.slice (some ⟨qb, qo, none⟩) n cap, .slice none 0 0] w fun e w' => Below w.heap.size w w' ∧ ∃ (g cp : Nat) (d : Array T3) (M : Nat → Nat → Option Nat) (hs : List Nat), e = .returned (.tuple #[.slice (some ⟨g, 0, none⟩) d.size cp, .int .i64 0]) ∧ w.heap.size ≤ g ∧ d.size ≤ 1600 ∧ w'.ownsRow w.heap.size 46 3 (.slice (some ⟨g, 0, none⟩) d.size cp) d.size (flat3 d.toList) ∧ Tris M d ∧ Msh px py n M hs ∧ Geo.Loc px py M := by
  have c1 := refusal_any px py n qb qo cap w hp h3 hn hcap
  rw [hr] at c1
  have C1 := hid c1
  have HP := hid hp
  have hA : allB px py n = true := by
    cases h : allB px py n with
    | true => rfl
    | false => simp [refI, h] at hr
  have hbd : ∀ i, i < n → (-1000 ≤ px i ∧ px i ≤ 1000) ∧ (-1000 ≤ py i ∧ py i ≤ 1000) := by
    intro i hi
    have := (allB_iff px py n).1 hA i hi
    exact ⟨(near_iff _).1 this.1, (near_iff _).1 this.2⟩
  have HBD := hid hbd
  have HRR := hid hr
  clear hp c1 hr hA hbd
  go_enter Tryz.func25, Tryz.ntmps25
  go_wp2_with fail
  refine C1.out.mono ?_
  rintro e w1 ⟨rfl, hb1⟩
  have c2 := hid (lineRef_nil px py n qb qo cap w1 (HP.out.below hb1 HP.out.lt) hn HBD.out)
  have HB1 := hid hb1
  clear C1 hb1
  go_wp2_with fail
  refine c2.out.mono ?_
  rintro e w2 ⟨rfl, hb2⟩
  have HB2 := hid (HB1.out.trans (hb2.mono HB1.out.size))
  have c3 := hid (places_any px py n qb qo cap w2 (HP.out.below HB2.out HP.out.lt) hn HBD.out)
  clear c2 hb2 HB1
  go_wp2_with fail
  refine c3.out.mono ?_
  rintro e w3 ⟨rfl, hb3, hp3⟩
  have HB3 := hid (HB2.out.trans (hb3.mono HB2.out.size))
  have c4 := hid (new_any px py n w2.heap.size 0 n w3 hp3 hn)
  clear c3 hb3 hp3
  go_wp2_with fail
  refine c4.out.mono ?_
  rintro e w4 ⟨mb, bm, rfl, hmb, hbm, hb4, dd, hdd, hperm, hsort, hM4⟩
  have HB4 := hid (HB3.out.trans (hb4.mono HB3.out.size))
  have MS := hid (msh0 h3 hn HRR.out hdd hperm hsort)
  have OD := hid (ord0 h3 HRR.out hdd hperm hsort)
  have c5 := hid (draw_nil mb w4)
  have HM4 := hid hM4
  have HMB := hid (And.intro hmb hbm)
  clear c4 hb4 hM4 hperm hsort hdd hmb hbm
  go_wp2_with fail
  refine c5.out.mono ?_
  rintro e w5 ⟨rfl, hb5⟩
  have HB5 := hid (HB4.out.trans (hb5.mono HB4.out.size))
  have HM5 := hid (HM4.out.below hb5)
  have c6 := hid (round_any mb bm w2.heap.size 0 n n px py _ (.slice none 0 0) [] (fun M => Sd n M (fun u v _ => Geo.c2 px py u v) = fanI px py (hullOf (T px py) (nums dd)) ((hullOf (T px py) (nums dd)).length - 2) ∧ Geo.Reach px py n (mesh0 px py (nums dd)) M) w5 hn (HM5.out.tight MS.out.mesh hn) (by simp) MS.out.mesh MS.out.cor ⟨MS.out.sum, .refl⟩ (fun M a b c d hm q _ hk => ⟨by rw [sum_flip hm q]; exact hk.1, .flip hk.2 hm q⟩))
  clear c5 hb5
  go_wp2_with fail
  refine c6.out.mono ?_
  rintro e w6 ⟨rfl, hg6, M, hM6, hm6, hc6, hk6, hbad⟩
  have HB6 := hid (HB5.out.grown hg6 HB5.out.size (fun k e => by have := Option.some.inj e; have := HMB.out.2; have := HB3.out.size; omega))
  have c7 := hid (trianglesM_any mb bm 1600 w2.heap.size 0 n n px py M (.slice none 0 0) [] w6 hM6 (Nat.le_refl _) (fun a b c e => ⟨(hm6.lts e).1, (hm6.lts e).2.1⟩) hn (one_tri hm6 hc6 (by omega)))
  have MS6 : Hid (Msh px py n M (hullOf (T px py) (nums dd))) := hid ⟨hm6, hc6, hk6.1, MS.out.hull, MS.out.hl, MS.out.hlen, MS.out.h3, ⟨nums dd, OD.out, rfl, hk6.2⟩⟩
  have LC := hid (loc_of hbad)
  clear c6 hg6 hM6 hm6 hc6 hk6 hbad
  go_wp2_with fail
  refine c7.out.mono ?_
  rintro e w7 ⟨hb7, g, cp, d, rfl, hg7, hd7, ho7, ht7⟩
  have HB7 := hid (HB6.out.trans (hb7.mono HB6.out.size))
  have HO7 : Hid (w7.ownsRow w.heap.size 46 3 (.slice (some ⟨g, 0, none⟩) d.size cp) d.size (flat3 d.toList)) := hid ⟨ho7.1, by
    rcases ho7.2 with h2 | ⟨g', cap', cur, k1, k2, k3⟩
    · exact .inl h2
    · exact .inr ⟨g', cap', cur, k1, Nat.le_trans HB6.out.size k2, k3⟩⟩
  have HG7 := hid (Nat.le_trans HB6.out.size hg7)
  have HT7 := hid ht7
  have HD7 := hid hd7
  clear c7 hb7 hg7 hd7 ho7 ht7
  go_wp2_with fail
  go_ret2
  exact ⟨HB7.out, g, cp, d, M, _, rfl, HG7.out, HD7.out, HO7.out, HT7.out, MS6.out, LC.out⟩

set_option maxRecDepth 100000 in
set_option maxHeartbeats 2000000 in
theorem triangles_ok (px py : Nat → Int) (n : Nat) [NeZero n] (qb qo cap : Nat) (w : World) (hp : Pts w qb qo n px py) (h3 : 3 ≤ n) (hn : n ≤ 40) (hcap : n ≤ cap) (hr : refI px py n = 0) :
    Calls Tryz.prog 15 #[.slice (some ⟨qb, qo, none⟩) n cap] w fun e w' => Below w.heap.size w w' ∧ ∃ (g cp : Nat) (d : Array T3) (M : Nat → Nat → Option Nat) (hs : List Nat), e = .returned (.tuple #[.slice (some ⟨g, 0, none⟩) d.size cp, .int .i64 0]) ∧ w.heap.size ≤ g ∧ d.size ≤ 1600 ∧ w'.ownsRow w.heap.size 46 3 (.slice (some ⟨g, 0, none⟩) d.size cp) d.size (flat3 d.toList) ∧ Tris M d ∧ Msh px py n M hs ∧ Geo.Loc px py M := by
  have C := hid (bound_ok px py n qb qo cap w hp h3 hn hcap hr)
  clear hp hr
  go_enter Tryz.func15, Tryz.ntmps15
  go_wp2_with fail
  refine C.out.mono ?_
  rintro e w1 ⟨hb, g, cp, d, M, hs, rfl, h⟩
  have H := hid h
  have HB := hid hb
  clear h hb
  go_wp2_with fail
  go_ret2
  exact ⟨HB.out, g, cp, d, M, hs, rfl, H.out⟩

set_option maxHeartbeats 1000000 in
theorem triangles_err {arg : Value} {w : World} {x : Int} (hx : x ≠ 0) (hc : Calls Tryz.prog 33 #[arg] w fun e w' => e = .returned (.int .i64 x) ∧ Below w.heap.size w w') :
    Calls Tryz.prog 15 #[arg] w fun e w' => e = .returned (.tuple #[.slice none 0 0, .int .i64 x]) ∧ Below w.heap.size w w' := by
  have C := hid hc
  have d : (x != 0) = true := by simpa using hx
  have B : Hid (Calls Tryz.prog 25 #[arg, .slice none 0 0] w fun e w' => e = .returned (.tuple #[.slice none 0 0, .int .i64 x]) ∧ Below w.heap.size w w') := hid (by
    clear hc hx
    go_enter Tryz.func25, Tryz.ntmps25
    go_wp2_with fail
    refine C.out.mono ?_
    rintro e w1 ⟨rfl, hb⟩
    have HB := hid hb
    clear hb
    go_wp2_with fail
    go_ret2
    exact ⟨rfl, HB.out⟩)
  clear hc hx C d
  go_enter Tryz.func15, Tryz.ntmps15
  go_wp2_with fail
  refine B.out.mono ?_
  rintro e w1 ⟨rfl, hb⟩
  have HB := hid hb
  clear hb
  go_wp2_with fail
  go_ret2
  exact ⟨rfl, HB.out⟩
end Go.Proofs.YtdbebbbceeopaaaGreat

set_option linter.unusedSimpArgs false
namespace Go.Proofs.YtdbebbbceeopaaaGreat
open Go.RowKit
open Go.Sort (SortedIn)

def dA (d : Array T3) (i : Nat) : Nat := (d[i]!).1
def dB (d : Array T3) (i : Nat) : Nat := (d[i]!).2.1
def dC (d : Array T3) (i : Nat) : Nat := (d[i]!).2.2
def dz (d : Array T3) : List Int := (List.range (d.size * 3)).map fun j => if j % 3 = 0 then (dA d (j / 3) : Int) else if j % 3 = 1 then (dB d (j / 3) : Int) else (dC d (j / 3) : Int)

theorem dz_get (d : Array T3) (i : Nat) (hi : i < d.size) : (dz d).getD (i * 3) 0 = dA d i ∧ (dz d).getD (i * 3 + 1) 0 = dB d i ∧ (dz d).getD (i * 3 + 2) 0 = dC d i := by
  have g : ∀ j, j < d.size * 3 → (dz d).getD j 0 = if j % 3 = 0 then (dA d (j / 3) : Int) else if j % 3 = 1 then (dB d (j / 3) : Int) else (dC d (j / 3) : Int) := by
    intro j hj
    simp [dz, List.getD_eq_getElem?_getD, hj]
  refine ⟨?_, ?_, ?_⟩
  · rw [g _ (by omega), if_pos (by omega), show i * 3 / 3 = i by omega]
  · rw [g _ (by omega), if_neg (by omega), if_pos (by omega), show (i * 3 + 1) / 3 = i by omega]
  · rw [g _ (by omega), if_neg (by omega), if_neg (by omega), show (i * 3 + 2) / 3 = i by omega]

theorem Tris.lists {M : Nat → Nat → Option Nat} {d : Array T3} (h : Tris M d) : Lists M d.size (dA d) (dB d) (dC d) := by
  refine ⟨fun i hi => ?_, fun a b c e h1 h2 => ?_, fun i hi => ?_⟩
  · have hm : d[i]! ∈ d.toList := by rw [getElem!_pos d i hi]; simp
    exact h.tri _ hm
  · obtain ⟨i, hi, e⟩ := List.getElem_of_mem (h.all a b c e h1 h2)
    have hi' : i < d.size := by simpa using hi
    have e' : d[i]! = (a, b, c) := by rw [getElem!_pos d i hi']; simpa using e
    exact ⟨i, hi', by simp [dA, e'], by simp [dB, e'], by simp [dC, e']⟩
  · have hi0 : i < d.size := by omega
    have hs := h.srt i (i + 1) (Nat.zero_le _) (by omega) hi
    unfold ltOf at hs
    rw [decide_eq_false_iff_not, cf3_lt] at hs
    have hneq : d[i]! ≠ d[i + 1]! := by
      have := List.pairwise_iff_getElem.1 h.nd i (i + 1) (by simpa using hi0) (by simpa using hi) (by omega)
      simpa [hi0, hi] using this
    have hne : ¬ ((d[i]!).1 = (d[i + 1]!).1 ∧ (d[i]!).2.1 = (d[i + 1]!).2.1 ∧ (d[i]!).2.2 = (d[i + 1]!).2.2) := fun k => hneq (Prod.ext k.1 (Prod.ext k.2.1 k.2.2))
    unfold lt3 at hs
    unfold dA dB dC
    omega

theorem Tris.row3 {px py : Nat → Int} {n : Nat} {M : Nat → Nat → Option Nat} {d : Array T3} (h : Tris M d) (hm : Geo.Mesh px py n M) : Row3 n d.size (dz d) (dA d) (dB d) (dC d) :=
  ⟨fun i hi => hm.lts (h.lists.tri i hi).1, fun i hi => dz_get d i hi⟩

theorem trs_own {w : World} {base g cap : Nat} {d : Array T3} (h : w.ownsRow base 46 3 (.slice (some ⟨g, 0, none⟩) d.size cap) d.size (flat3 d.toList)) : Trs w g 0 d.size (dz d) := by
  have hg : g < w.heap.size := by
    rcases h.2 with ⟨h', _⟩ | ⟨g', cap', cur, h', _, hh, _⟩
    · cases h'
    · cases h'; exact (Array.getElem?_eq_some_iff.1 hh).1
  refine ⟨hg, fun j hj => ?_⟩
  obtain ⟨z0, z1, z2⟩ := dz_get d j hj
  rw [z0, z1, z2]
  have hc : ∀ c, c < 3 → w.cell? ⟨g, 0 + j * 3 + c, none⟩ = (enc3 (d[j]!))[c]? := by
    intro c hc
    rw [Nat.zero_add, h.cellAt (j * 3 + c) (by omega), flat3_get d.toList j c hc, Array.getElem?_toList, Array.getElem?_eq_getElem hj, getElem!_pos d j hj]
    rfl
  exact ⟨hc 0 (by omega), hc 1 (by omega), hc 2 (by omega)⟩

theorem refI_bds {px py : Nat → Int} {n : Nat} (h : refI px py n = 0) : Bds n px py := by
  have hA : allB px py n = true := by
    cases h' : allB px py n with
    | true => rfl
    | false => simp [refI, h'] at h
  intro i hi
  have := (allB_iff px py n).1 hA i hi
  exact ⟨(near_iff _).1 this.1, (near_iff _).1 this.2⟩

theorem refI_inj {px py : Nat → Int} {n : Nat} (h : refI px py n = 0) : Geo.Inj px py n := by
  intro i j hi hj e1 e2
  rcases Classical.em (i = j) with k | k
  · exact k
  · exact absurd ⟨e1, e2⟩ (refI_ne h i j hi hj k)

/-- A mesh's triangles fill, as the document has it. -/
theorem fills_msh (px py : Nat → Int) (n qb qo cap g cp : Nat) (d : Array T3) (M : Nat → Nat → Option Nat) (hs : List Nat) (w : World) (hp : Pts w qb qo n px py) (h3 : 3 ≤ n) (hn : n ≤ 40) (h0 : refI px py n = 0) (ht : Trs w g 0 d.size (dz d)) (hd : d.size ≤ 1600) (hT : Tris M d) (hM : Msh px py n M hs) :
    Calls Tryz.prog 84 #[.slice (some ⟨qb, qo, none⟩) n cap, .slice (some ⟨g, 0, none⟩) d.size cp] w fun e w' => e = .returned (.bool true) ∧ Below w.heap.size w w' :=
  fills_any px py n qb qo cap g 0 d.size cp (dz d) (dA d) (dB d) (dC d) (fanI px py hs (hs.length - 2)) w hp ht hn (by omega) (refI_bds h0) (hT.lists.fill hM.mesh hM.cor (hT.row3 hM.mesh) _ hM.sum)
    fun W hW => area_any px py n qb qo cap W (hp.below hW hp.lt) h3 hn (refI_bds h0) h0 hs hM.hull (refI_ne h0) hM.hl hM.hlen hM.h3

/-- And no point lies within the circle of any, if all sides are as they should be two by two. -/
theorem round_msh (px py : Nat → Int) (n qb qo cap g cp : Nat) (d : Array T3) (M : Nat → Nat → Option Nat) (hs : List Nat) (w : World) (hp : Pts w qb qo n px py) (hn : n ≤ 40) (h0 : refI px py n = 0) (ht : Trs w g 0 d.size (dz d)) (hd : d.size ≤ 1600) (hT : Tris M d) (hM : Msh px py n M hs) (hl : Geo.Loc px py M) :
    Calls Tryz.prog 50 #[.slice (some ⟨qb, qo, none⟩) n cap, .slice (some ⟨g, 0, none⟩) d.size cp] w fun e w' => e = .returned (.bool true) ∧ Below w.heap.size w w' :=
  rround_any px py n qb qo cap g 0 d.size cp (dz d) (dA d) (dB d) (dC d) w hp ht hn (by omega) (refI_bds h0) (hT.row3 hM.mesh)
    fun i hi k hk => by rw [wnR_Wn]; exact hM.mesh.delaunay (refI_inj h0) hM.cor hl (hT.lists.tri i hi).1 hk

/-- What the law asks of a list of triangles, of the points v, in a world that has both. -/
structure Good2 (v u : Value) (x : Int) (W : World) : Prop where
  chk : Calls Tryz.prog 49 #[v] W fun e w' => e = .returned (.int .i64 x) ∧ Below W.heap.size W w'
  fil : x = 0 → Calls Tryz.prog 84 #[v, u] W fun e w' => e = .returned (.bool true) ∧ Below W.heap.size W w'
  rou : x = 0 → Calls Tryz.prog 50 #[v, u] W fun e w' => e = .returned (.bool true) ∧ Below W.heap.size W w'

theorem triangles_step (zs : List Int) (n g cap : Nat) (v : Value) (W : World) (hn : n ≤ 8796093021952) (hcap : n ≤ cap) (hp : Pts W g 0 n (zx zs) (zy zs)) (hs : ∃ p c, v = .slice p n c) :
    Calls Tryz.prog 15 #[.slice (some ⟨g, 0, none⟩) n cap] W fun e w' => ∃ u x m xs, e = .returned (.tuple #[u, .int .i64 x]) ∧ Below W.heap.size W w' ∧ w'.ownsRow W.heap.size 46 3 u m xs ∧ m ≤ 1600 ∧ (x ≠ 0 → m = 0) ∧
      ∀ W', Src W' v 2 n zs → Below w'.heap.size w' W' → Good2 v u x W' := by
  by_cases hr : n < 3 ∨ 40 < n
  · refine (triangles_err (x := 1) (by omega) ((refusal_count _ n cap W hr (by omega)).mono (by rintro e w' ⟨rfl, rfl⟩; exact ⟨rfl, Below.refl _ _⟩))).mono ?_
    rintro e w' ⟨rfl, hb⟩
    obtain ⟨p, c, rfl⟩ := hs
    exact ⟨_, 1, 0, [], rfl, hb, World.ownsRow_nil _ _ _ _, by simp, fun _ => rfl, fun W' _ _ => ⟨(check_count p n c W' hr (by omega)).mono (by rintro e w' ⟨rfl, rfl⟩; exact ⟨rfl, Below.refl _ _⟩), fun h => by omega, fun h => by omega⟩⟩
  · by_cases h0 : refI (zx zs) (zy zs) n = 0
    · have hz : NeZero n := ⟨by omega⟩
      refine (triangles_ok (zx zs) (zy zs) n g 0 cap W hp (by omega) (by omega) hcap h0).mono ?_
      rintro e w2 ⟨hb2, g2, cp, d, M, hl, rfl, hg2, hd, hown, hT, hM, hL⟩
      refine ⟨_, 0, d.size, _, rfl, hb2, hown, hd, fun h => by omega, fun W' hS hb => ?_⟩
      obtain ⟨b, o, c, rfl, hP⟩ := hS.pts (by omega)
      have ht := (trs_own hown).below hb
      exact ⟨by rw [← h0]; exact check_any (zx zs) (zy zs) n b o c W' hP (by omega) (by omega), fun _ => fills_msh _ _ n b o c g2 cp d M hl W' hP (by omega) (by omega) h0 ht hd hT hM, fun _ => round_msh _ _ n b o c g2 cp d M hl W' hP (by omega) h0 ht hd hT hM hL⟩
    · refine (triangles_err h0 (refusal_any (zx zs) (zy zs) n g 0 cap W hp (by omega) (by omega) hcap)).mono ?_
      rintro e w' ⟨rfl, hb⟩
      refine ⟨_, _, 0, [], rfl, hb, World.ownsRow_nil _ _ _ _, by simp, fun _ => rfl, fun W' hS _ => ?_⟩
      obtain ⟨b, o, c, rfl, hP⟩ := hS.pts (by omega)
      exact ⟨check_any (zx zs) (zy zs) n b o c W' hP (by omega) (by omega), fun h => absurd h h0, fun h => absurd h h0⟩

set_option maxHeartbeats 1000000 in
/-- The law's 'fills'. -/
theorem lawfills_any (kd x y : Int) (v1 v2 v3 : Value) (p : Option Addr) (m c : Nat) (e : Int) (W : World) (hm : e ≠ 0 → m = 0) (hf : e = 0 → ∀ W', Below W.heap.size W W' → Calls Tryz.prog 84 #[v1, .slice p m c] W' fun e w' => e = .returned (.bool true) ∧ Below W'.heap.size W' w') :
    Calls Tryz.prog 48 #[opV kd v1 v2 v3 x y, .slice p m c, .int .i64 e, .int .i64 e] W fun r w' => r = .returned (.bool true) ∧ Below W.heap.size W w' := by
  have OPV : opV kd v1 v2 v3 x y = .agg #[.int .i64 kd, v1, v2, v3, .int .i64 x, .int .i64 y] := rfl
  rw [OPV]
  clear OPV
  by_cases h0 : e = 0
  · subst h0
    have F := hid (hf rfl)
    clear hf hm
    go_enter Tryz.func48, Tryz.ntmps48
    go_wp2_with fail
    refine (F.out _ ((Below.refl _ _).alloc (Nat.le_refl _) _)).mono ?_
    rintro r w' ⟨rfl, hb⟩
    have HB := hid (((Below.refl _ _).alloc (Nat.le_refl _) _).trans (hb.mono (by simp)))
    clear hb
    go_wp2_with fail
    go_ret
    exact ⟨rfl, HB.out⟩
  · have := hm h0
    subst this
    have d : (e != 0) = true := by simpa using h0
    clear hf hm
    go_enter Tryz.func48, Tryz.ntmps48
    go_wp2
    go_ret
    exact ⟨rfl, (Below.refl _ _).alloc (Nat.le_refl _) _⟩
end Go.Proofs.YtdbebbbceeopaaaGreat

set_option linter.unusedSimpArgs false
namespace Go.Proofs.YtdbebbbceeopaaaGreat
open Go.RowKit

theorem Full3.kept {w w' : World} {v : Value} {m : Int} (h : Full3 w v m) (hs : w.heap.size ≤ w'.heap.size) (hk : ∀ g, v.ownBlock = some g → w'.heap[g]? = w.heap[g]?) : Full3 w' v m := by
  rcases h with h | ⟨g, n, c, rfl, h2, h3, h4⟩
  · exact Or.inl h
  · exact Or.inr ⟨g, n, c, rfl, h2, Nat.lt_of_lt_of_le h3 hs, fun j hj => (World.cell?_of_block (w := w) (a := ⟨g, j, none⟩) (hk g rfl)).trans (h4 j hj)⟩

/-- The book, behind what left its blocks alone. -/
theorem Bt.kept {w w' : World} {B S S' bk : Nat} {vi vt : Value} {es : List (List Value)} (h : Bt w B S bk vi es vt) (hS : S ≤ S') (hw : S' ≤ w'.heap.size) (hs : w.heap.size ≤ w'.heap.size) (hk : w'.heap[bk]? = w.heap[bk]?) (hv : ∀ g, vi.ownBlock = some g → w'.heap[g]? = w.heap[g]?)
    (he : ∀ e ∈ es, ∀ x ∈ e, ∀ g, x.ownBlock = some g → w'.heap[g]? = w.heap[g]?) : Bt w' B S' bk vi es vt := by
  refine ⟨h.bB, Nat.lt_of_lt_of_le h.bS hS, hw, ?_, ?_, ?_, owns_kept h.own hv, ?_, ?_⟩
  · exact (World.cell?_of_block (w := w) (a := ⟨bk, 1, none⟩) hk).trans h.c1
  · exact fun o => (World.frozen?_of_block (w := w) (a := ⟨bk, o, none⟩) hk).trans (h.f1 o)
  · exact (World.cell?_of_block (w := w) (a := ⟨bk, 0, none⟩) hk).trans h.c0
  · intro g hg
    have := h.vS g hg
    exact ⟨by omega, this.2⟩
  · intro i e hi
    obtain ⟨l, a, b, c, rfl, hx⟩ := h.ent i e hi
    refine ⟨l, a, b, c, rfl, fun x hx' => ?_⟩
    obtain ⟨h1, h2⟩ := hx x hx'
    refine ⟨h1.kept hs (he _ (List.mem_of_getElem? hi) x (by simp at hx' ⊢; rcases hx' with h | h | h | h <;> simp [h])), fun g hg => ?_⟩
    have := h2 g hg
    exact ⟨by omega, this.2⟩

theorem Bt.below {w w' : World} {B S S' bk : Nat} {vi vt : Value} {es : List (List Value)} (h : Bt w B S bk vi es vt) (hb : Below S w w') (hS : S ≤ S') (hw : S' ≤ w'.heap.size) : Bt w' B S' bk vi es vt :=
  h.kept hS hw hb.size (hb.block bk h.bS) (fun g hg => hb.block g (h.vS g hg).1) fun e he x hx g hg => by
    obtain ⟨i, hi⟩ := List.mem_iff_getElem?.1 he
    obtain ⟨l, a, b, c, rfl, hy⟩ := h.ent i e hi
    by_cases hxm : x = .int .i64 (-1000 - (i : Int))
    · subst hxm; cases hg
    · exact hb.block g ((hy x (by simp at hx ⊢; rcases hx with h | h | h | h | h <;> simp_all)).2 g hg).1

theorem entT_lt {w : World} {B S bk : Nat} {vi vt : Value} {es : List (List Value)} (h : Bt w B S bk vi es vt) {e : List Value} (he : e ∈ es) {x : Value} (hx : x ∈ e) {g : Nat} (hg : x.ownBlock = some g) : g < S ∧ g ≠ bk := by
  obtain ⟨i, hi⟩ := List.mem_iff_getElem?.1 he
  obtain ⟨l, a, b, c, rfl, hy⟩ := h.ent i e hi
  by_cases hxm : x = .int .i64 (-1000 - (i : Int))
  · subst hxm; cases hg
  · have := (hy x (by simp at hx ⊢; rcases hx with h | h | h | h | h <;> simp_all)).2 g hg
    exact ⟨this.1, this.2.1⟩

theorem own3_base {w : World} {base b' : Nat} {v : Value} {n : Nat} {xs : List Value} (h : w.ownsRow base 46 3 v n xs) (hb : b' ≤ base) : w.ownsRow b' 46 3 v n xs := by
  refine ⟨h.1, ?_⟩
  rcases h.2 with h0 | ⟨g, cap, cur, rfl, hg, r⟩
  · exact .inl h0
  · exact .inr ⟨g, cap, cur, rfl, Nat.le_trans hb hg, r⟩

set_option maxRecDepth 100000 in
set_option maxHeartbeats 4000000 in
theorem plays2 (w : World) (B bk : Nat) (vi : Value) (es : List (List Value)) (x y : Int) (v1 v2 v3 : Value) (n1 n2 n3 : Nat) (z1 z2 z3 : List Int) (h1 : n1 ≤ 8796093021952) (h2 : n2 ≤ 8796093021952) (h3 : n3 ≤ 8796093021952)
    {vt : Value} (hB : Bt w B w.heap.size bk vi es vt) (he : es.length ≤ 1466015504000) (s1 : Src w v1 2 n1 z1) (s2 : Src w v2 2 n2 z2) (s3 : Src w v3 3 n3 z3)
    (hq : ∀ v ∈ [v1, v2, v3], ∀ a n c, v = .slice (some a) n c → 0 < n → a.block < w.heap.size ∧ a.block ≠ bk ∧ vi.ownBlock ≠ some a.block) :
    Calls Tryz.prog 29 #[.pointer (some ⟨bk, 0, none⟩), opV 2 v1 v2 v3 x y] w fun e w' => e = .returned (.bool true) ∧ ∃ vi' e', Bt w' B w'.heap.size bk vi' (es ++ [e']) vt ∧ Kp w w' w.heap.size bk vi ∧ Ap w.heap.size vi vi' e' := by
  have HS1 := hid s1
  have HS2 := hid s2
  have HS3 := hid s3
  have HBK := hid hB
  have HQ := hid hq
  clear s1 s2 s3 hB hq
  obtain ⟨p1, c1, rfl⟩ : ∃ p c, v1 = .slice p n1 c := by obtain ⟨_, p, c, e, _⟩ := HS1.out; exact ⟨p, c, e⟩
  obtain ⟨p2, c2, rfl⟩ : ∃ p c, v2 = .slice p n2 c := by obtain ⟨_, p, c, e, _⟩ := HS2.out; exact ⟨p, c, e⟩
  obtain ⟨p3, c3, rfl⟩ : ∃ p c, v3 = .slice p n3 c := by obtain ⟨_, p, c, e, _⟩ := HS3.out; exact ⟨p, c, e⟩
  have OPV : opV 2 (.slice p1 n1 c1) (.slice p2 n2 c2) (.slice p3 n3 c3) x y = .agg #[.int .i64 2, .slice p1 n1 c1, .slice p2 n2 c2, .slice p3 n3 c3, .int .i64 x, .int .i64 y] := rfl
  rw [OPV]
  have HOPV := hid OPV
  clear OPV
  go_enter Tryz.func29, Tryz.ntmps29
  go_wp2_with fail
  obtain ⟨b0, hb0⟩ : ∃ b0, b0 = w.heap.size := ⟨_, rfl⟩
  obtain ⟨W1, hW1⟩ : ∃ W1 : World, W1 = w.alloc (.cells #[.int .i64 2, .slice p1 n1 c1, .slice p2 n2 c2, .slice p3 n3 c3, .int .i64 x, .int .i64 y] 62) := ⟨_, rfl⟩
  have bel1 : Below w.heap.size w W1 := by rw [hW1]; exact (Below.refl _ _).alloc (Nat.le_refl _) _
  have siz1 : W1.heap.size = b0 + 1 := by rw [hW1, hb0]; exact size_new _ _
  have box1 : W1.heap[b0]? = some (.cells #[.int .i64 2, .slice p1 n1 c1, .slice p2 n2 c2, .slice p3 n3 c3, .int .i64 x, .int .i64 y] 62 (0, 0)) := by rw [hW1, hb0]; exact heap_new _ _
  rw [← hW1]
  rw [← hb0]
  have BEL1 := hid bel1
  have SIZ1 := hid siz1
  have BOX1 := hid box1
  have HB0 := hid hb0
  clear hW1 bel1 siz1 box1 hb0
  refine (lend_any W1 2 x y _ _ _ n1 n2 n3 z1 z2 z3 h1 h2 h3 (HS1.out.below BEL1.out) (HS2.out.below BEL1.out) (HS3.out.below BEL1.out)).mono ?_
  rintro e W2 ⟨g1, g2, g3, rfl, e1, e2, e3, bel2, k1, k2, k3⟩
  obtain ⟨W3, hW3⟩ : ∃ W3 : World, W3 = W2.alloc (.cells #[.slice (some ⟨g1, 0, none⟩) (n1 + 3) (n1 + 3), .slice (some ⟨g2, 0, none⟩) (n2 + 3) (n2 + 3), .slice (some ⟨g3, 0, none⟩) (n3 + 3) (n3 + 3)] 80) := ⟨_, rfl⟩
  have HW3 := hid hW3
  have E1 := hid e1
  have E2 := hid e2
  have E3 := hid e3
  have BEL2 := hid bel2
  have K1 := hid k1
  have K2 := hid k2
  have K3 := hid k3
  have q0 : W2.cell? ⟨b0, 0, none⟩ = some (.int .i64 2) := (bel2.cell (by show b0 < _; rw [SIZ1.out]; omega)).trans (heap_cell BOX1.out 0)
  have q1 : W2.cell? ⟨b0, 1, none⟩ = some (.slice p1 n1 c1) := (bel2.cell (by show b0 < _; rw [SIZ1.out]; omega)).trans (heap_cell BOX1.out 1)
  have q0' := new_cell q0
  have q1' := new_cell q1
  have a1 : (n1 : Int) ≤ n1 + 3 := by omega
  clear hW3 e1 e2 e3 bel2 k1 k2 k3
  go_wp2_with fail
  rw [← HW3.out]
  obtain ⟨bX, hbX⟩ : ∃ bX, bX = W2.heap.size := ⟨_, rfl⟩
  rw [← hbX]
  have BX := hid hbX
  clear hbX q0 q1 q0' q1' a1
  have SIZ3 : Hid (W3.heap.size = bX + 1) := hid (by rw [HW3.out, BX.out]; exact size_new _ _)
  have OLD3 : Hid (∀ k, k < bX → W3.heap[k]? = W2.heap[k]?) := hid fun k hk => by rw [HW3.out]; exact Below.heap_alloc _ _ _ (by rw [← BX.out]; exact hk)
  have XB3 : Hid (W3.heap[bX]? = some (.cells #[.slice (some ⟨g1, 0, none⟩) (n1 + 3) (n1 + 3), .slice (some ⟨g2, 0, none⟩) (n2 + 3) (n2 + 3), .slice (some ⟨g3, 0, none⟩) (n3 + 3) (n3 + 3)] 80 (0, 0))) := hid (by rw [HW3.out, BX.out]; exact heap_new _ _)
  have L1 : Hid (g1 < bX) := hid (by rw [BX.out]; exact heap_lt E1.out)
  have L2 : Hid (g2 < bX) := hid (by rw [BX.out]; exact heap_lt E2.out)
  have L3 : Hid (g3 < bX) := hid (by rw [BX.out]; exact heap_lt E3.out)
  have G1 := hid ((OLD3.out g1 L1.out).trans E1.out)
  have G2 := hid ((OLD3.out g2 L2.out).trans E2.out)
  have G3 := hid ((OLD3.out g3 L3.out).trans E3.out)
  have LB : Hid (b0 < bX) := hid (by have := BEL2.out.size; rw [SIZ1.out, ← BX.out] at this; omega)
  have BO3 : Hid (W3.heap[b0]? = some (.cells #[.int .i64 2, .slice p1 n1 c1, .slice p2 n2 c2, .slice p3 n3 c3, .int .i64 x, .int .i64 y] 62 (0, 0))) := hid ((OLD3.out b0 LB.out).trans ((BEL2.out.block b0 (by rw [SIZ1.out]; omega)).trans BOX1.out))
  have BEL3 : Hid (Below b0 w W3) := by
    refine hid ((BEL1.out.trans (BEL2.out.mono BEL1.out.size)).mono (by rw [HB0.out]; exact Nat.le_refl _) |>.trans ?_)
    rw [HW3.out]
    exact (Below.refl _ _).alloc (by rw [← BX.out]; have := LB.out; omega) _
  clear HW3 OLD3 E1 E2 E3
  refine (triangles_step z1 n1 g1 (n1 + 3) (.slice p1 n1 c1) W3 h1 (by omega) (pts_lent G1.out HS1.out.1) ⟨p1, c1, rfl⟩).mono ?_
  rintro e W4 ⟨u, xe, m, xs, rfl, bel4, own4, hm4, hx4, good⟩
  obtain ⟨au, cu, hu⟩ := owns_len3 own4
  have BEL4 := hid bel4
  have OWN4 := hid own4
  have GOOD := hid good
  have HX4 := hid hx4
  have q1 : W4.cell? ⟨b0, 1, none⟩ = some (.slice p1 n1 c1) := (bel4.cell (by show b0 < _; rw [SIZ3.out]; have := LB.out; omega)).trans (heap_cell BO3.out 1)
  have q0 : W4.cell? ⟨b0, 0, none⟩ = some (.int .i64 2) := (bel4.cell (by show b0 < _; rw [SIZ3.out]; have := LB.out; omega)).trans (heap_cell BO3.out 0)
  have q2 : W4.cell? ⟨b0, 2, none⟩ = some (.slice p2 n2 c2) := (bel4.cell (by show b0 < _; rw [SIZ3.out]; have := LB.out; omega)).trans (heap_cell BO3.out 2)
  have q3 : W4.cell? ⟨b0, 3, none⟩ = some (.slice p3 n3 c3) := (bel4.cell (by show b0 < _; rw [SIZ3.out]; have := LB.out; omega)).trans (heap_cell BO3.out 3)
  have q4 : W4.cell? ⟨b0, 4, none⟩ = some (.int .i64 x) := (bel4.cell (by show b0 < _; rw [SIZ3.out]; have := LB.out; omega)).trans (heap_cell BO3.out 4)
  have q5 : W4.cell? ⟨b0, 5, none⟩ = some (.int .i64 y) := (bel4.cell (by show b0 < _; rw [SIZ3.out]; have := LB.out; omega)).trans (heap_cell BO3.out 5)
  subst hu
  clear bel4 own4 good hx4
  have BEL04 : Hid (Below b0 w W4) := hid (BEL3.out.trans (BEL4.out.mono (by rw [SIZ3.out]; have := LB.out; omega)))
  have SRC : Hid (∀ W, Below W4.heap.size W4 W → Src W (.slice p1 n1 c1) 2 n1 z1) := hid fun W hW => HS1.out.below (by rw [← HB0.out]; exact BEL04.out.trans (hW.mono (by rw [HB0.out]; exact BEL04.out.size)))
  have HCHK : Hid (∀ W', Below W4.heap.size W4 W' → Calls Tryz.prog 49 #[.slice p1 n1 c1] W' fun e w' => e = .returned (.int .i64 xe) ∧ Below W'.heap.size W' w') := hid fun W' hb => (GOOD.out W' (SRC.out W' hb) hb).chk
  have HFIL : Hid (∀ W', Below W4.heap.size W4 W' → Calls Tryz.prog 48 #[.agg #[.int .i64 2, .slice p1 n1 c1, .slice p2 n2 c2, .slice p3 n3 c3, .int .i64 x, .int .i64 y], .slice au m cu, .int .i64 xe, .int .i64 xe] W' fun e w' => e = .returned (.bool true) ∧ Below W'.heap.size W' w') := hid fun W' hb => by
    have h := lawfills_any 2 x y (.slice p1 n1 c1) (.slice p2 n2 c2) (.slice p3 n3 c3) au m cu xe W' HX4.out (fun e W'' hb' => (GOOD.out W'' (SRC.out W'' (hb.trans (hb'.mono hb.size))) (hb.trans (hb'.mono hb.size))).fil e)
    rw [HOPV.out] at h
    exact h
  have HROU : Hid (xe = 0 → ∀ W', Below W4.heap.size W4 W' → Calls Tryz.prog 50 #[.slice p1 n1 c1, .slice au m cu] W' fun e w' => e = .returned (.bool true) ∧ Below W'.heap.size W' w') := hid fun e W' hb => (GOOD.out W' (SRC.out W' hb) hb).rou e
  have lb : b0 < W4.heap.size := by have := BEL4.out.size; have := SIZ3.out; have := LB.out; omega
  have LBW := hid lb
  go_wp2_with fail
  go_region_held3 (fun w' => w'.cell? ⟨b0, 0, none⟩ = some (.int .i64 2) ∧ w'.cell? ⟨b0, 1, none⟩ = some (.slice p1 n1 c1) ∧ w'.cell? ⟨b0, 2, none⟩ = some (.slice p2 n2 c2) ∧ w'.cell? ⟨b0, 3, none⟩ = some (.slice p3 n3 c3) ∧ w'.cell? ⟨b0, 4, none⟩ = some (.int .i64 x) ∧ w'.cell? ⟨b0, 5, none⟩ = some (.int .i64 y)) (go_keep)
    (first
      | (go_at_call 49; refine (HCHK.out _ (Below.refl _ _).drew).mono ?_; rintro e W5 ⟨rfl, hb5⟩; have u0 := (hb5.cell (p := ⟨b0, 0, none⟩) lb).trans q0; have u1 := (hb5.cell (p := ⟨b0, 1, none⟩) lb).trans q1; have u2 := (hb5.cell (p := ⟨b0, 2, none⟩) lb).trans q2; have u3 := (hb5.cell (p := ⟨b0, 3, none⟩) lb).trans q3; have u4 := (hb5.cell (p := ⟨b0, 4, none⟩) lb).trans q4; have u5 := (hb5.cell (p := ⟨b0, 5, none⟩) lb).trans q5; have HB5 := hid ((Below.refl _ _).drew.trans hb5); clear hb5)
      | (go_at_call 48; refine (HFIL.out _ HB5.out).mono ?_; rintro e W6 ⟨rfl, hb6⟩; have HB6 := hid (HB5.out.trans (hb6.mono HB5.out.size)); clear hb6; have s0 := (HB6.out.cell (p := ⟨b0, 0, none⟩) lb).trans q0; have s1 := (HB6.out.cell (p := ⟨b0, 1, none⟩) lb).trans q1; have s2 := (HB6.out.cell (p := ⟨b0, 2, none⟩) lb).trans q2; have s3 := (HB6.out.cell (p := ⟨b0, 3, none⟩) lb).trans q3; have s4 := (HB6.out.cell (p := ⟨b0, 4, none⟩) lb).trans q4; have s5 := (HB6.out.cell (p := ⟨b0, 5, none⟩) lb).trans q5))
  have NX : xe = 0 ∨ xe ≠ 0 := Classical.em _
  clear u0 u1 u2 u3 u4 u5 s0 s2 s3 s4 s5 q0 q1 q2 q3 q4 q5
  rcases NX with h0 | h0
  case' inl =>
    subst h0
    go_wp2_with fail
    refine (HROU.out (by first | exact rfl | trivial) _ HB6.out).mono ?_
    rintro e WF ⟨rfl, hb7⟩
    have HBF := hid (HB6.out.trans (hb7.mono HB6.out.size))
    clear hb7
    go_wp2_with fail
  case' inr =>
    have d : (xe != 0) = true := by simpa using h0
    go_wp2_with fail
    obtain ⟨WF, rfl⟩ : ∃ WF, WF = W6 := ⟨W6, rfl⟩
    have HBF := HB6
  all_goals
    have B36 : Hid (Below W3.heap.size W3 WF) := hid (BEL4.out.trans (HBF.out.mono BEL4.out.size))
    have S56 : Hid (W3.heap.size ≤ WF.heap.size) := hid B36.out.size
    have B06 : Hid (Below b0 w WF) := hid (BEL3.out.trans (B36.out.mono (by rw [SIZ3.out]; have := LB.out; omega)))
    have BK6 : Hid (Bt WF B W3.heap.size bk vi es vt) := hid (HBK.out.below (by rw [← HB0.out]; exact B06.out) (by rw [← HB0.out, SIZ3.out]; have := LB.out; omega) S56.out)
    have OWN6 : Hid (WF.ownsRow W3.heap.size 46 3 (.slice au m cu) m xs) := hid (owns_kept OWN4.out fun g hg => HBF.out.block g (own_ge3 OWN4.out g hg).2)
    refine (keepThrees_any WF B W3.heap.size bk vi es (.slice au m cu) m xs BK6.out he (by omega) (own3_base OWN6.out ?hl) (fun g hg => (own_ge3 OWN6.out g hg).1)).mono ?_
    case hl =>
      have := HBK.out.bB
      have := HBK.out.bS
      rw [← HB0.out] at this
      rw [SIZ3.out]; have := LB.out; omega
    rintro e W7 ⟨rfl, vi', e', bk7, kp7, ap7⟩
    have BK7 := hid bk7
    have KP7 := hid kp7
    have AP7 := hid ap7
    clear bk7 kp7 ap7
    have NB : Hid (bk < b0) := hid (by rw [HB0.out]; exact HBK.out.bS)
    have NV : Hid (∀ g, vi.ownBlock = some g → g < b0) := hid fun g hg => by rw [HB0.out]; exact (HBK.out.vS g hg).1
    have R7 : Hid (∀ g, b0 ≤ g → g < W3.heap.size → W7.heap[g]? = W3.heap[g]?) := hid fun g h1 h2 =>
      (KP7.out.block g h2 (by have := NB.out; omega) (fun e => by have := NV.out g e; omega)).trans (B36.out.block g h2)
    have S7 : Hid (∀ g, g < b0 → g ≠ bk → vi.ownBlock ≠ some g → W7.heap[g]? = w.heap[g]?) := hid fun g h1 h2 h3 =>
      (KP7.out.block g (by rw [SIZ3.out]; have := LB.out; omega) h2 h3).trans (B06.out.block g h1)
    have XB7 := hid ((R7.out bX (by have := LB.out; omega) (by rw [SIZ3.out]; omega)).trans XB3.out)
    have BO7 := hid ((R7.out b0 (Nat.le_refl _) (by rw [SIZ3.out]; have := LB.out; omega)).trans BO3.out)
    have t0 : W7.cell? ⟨bX, 0, none⟩ = some (.slice (some ⟨g1, 0, none⟩) (n1 + 3) (n1 + 3)) := heap_cell XB7.out 0
    have t1 : W7.cell? ⟨bX, 1, none⟩ = some (.slice (some ⟨g2, 0, none⟩) (n2 + 3) (n2 + 3)) := heap_cell XB7.out 1
    have t2 : W7.cell? ⟨bX, 2, none⟩ = some (.slice (some ⟨g3, 0, none⟩) (n3 + 3) (n3 + 3)) := heap_cell XB7.out 2
    have r0 : W7.cell? ⟨b0, 0, none⟩ = some (.int .i64 2) := heap_cell BO7.out 0
    have r1 : W7.cell? ⟨b0, 1, none⟩ = some (.slice p1 n1 c1) := heap_cell BO7.out 1
    have r2 : W7.cell? ⟨b0, 2, none⟩ = some (.slice p2 n2 c2) := heap_cell BO7.out 2
    have r3 : W7.cell? ⟨b0, 3, none⟩ = some (.slice p3 n3 c3) := heap_cell BO7.out 3
    have r4 : W7.cell? ⟨b0, 4, none⟩ = some (.int .i64 x) := heap_cell BO7.out 4
    have r5 : W7.cell? ⟨b0, 5, none⟩ = some (.int .i64 y) := heap_cell BO7.out 5
    go_wp2_with fail
    have M1 : Hid (b0 + 1 ≤ g1 ∧ g1 < W3.heap.size) := hid ⟨by rw [← SIZ1.out]; exact K1.out, by rw [SIZ3.out]; have := L1.out; omega⟩
    have M2 : Hid (b0 + 1 ≤ g2 ∧ g2 < W3.heap.size) := hid ⟨by rw [← SIZ1.out]; exact K2.out, by rw [SIZ3.out]; have := L2.out; omega⟩
    have M3 : Hid (b0 + 1 ≤ g3 ∧ g3 < W3.heap.size) := hid ⟨by rw [← SIZ1.out]; exact K3.out, by rw [SIZ3.out]; have := L3.out; omega⟩
    have Q7 : Hid (∀ v ∈ [Value.slice p1 n1 c1, .slice p2 n2 c2, .slice p3 n3 c3], ∀ a n c, v = .slice (some a) n c → 0 < n → W7.heap[a.block]? = w.heap[a.block]?) := hid fun v hv a n c e hn => by
      have := HQ.out v hv a n c e hn
      exact S7.out _ (by rw [HB0.out]; exact this.1) this.2.1 this.2.2
    refine (still_any W7 2 x y (.slice p1 n1 c1) (.slice p2 n2 c2) (.slice p3 n3 c3) b0 n1 n2 n3 g1 g2 g3 z1 z2 z3 h1 h2 h3 (HS1.out.kept fun a c e hn => Q7.out _ (by simp) a _ c e hn) (HS2.out.kept fun a c e hn => Q7.out _ (by simp) a _ c e hn) (HS3.out.kept fun a c e hn => Q7.out _ (by simp) a _ c e hn)
      (fun v hv a n c e hn => by rw [HB0.out]; exact (HQ.out v hv a n c e hn).1) (by have := M1.out.1; omega) (by have := M2.out.1; omega) (by have := M3.out.1; omega)
      ((R7.out g1 (by have := M1.out.1; omega) M1.out.2).trans G1.out) ((R7.out g2 (by have := M2.out.1; omega) M2.out.2).trans G2.out) ((R7.out g3 (by have := M3.out.1; omega) M3.out.2).trans G3.out)).mono ?_
    rintro e W8 ⟨rfl, but8⟩
    have BUT8 := hid but8
    clear but8
    go_wp2_with fail
    go_ret
    have far : ∀ g, g = g1 ∨ g = g2 ∨ g = g3 → b0 + 1 ≤ g ∧ g < W3.heap.size := by
      rintro g (rfl | rfl | rfl)
      · exact M1.out
      · exact M2.out
      · exact M3.out
    have same : ∀ k, k < W7.heap.size → (k < b0 ∨ W3.heap.size ≤ k) → W8.heap[k]? = W7.heap[k]? := by
      intro k hk hor
      refine BUT8.out.kept k hk ?_ ?_ ?_
      · rintro rfl; have := far _ (.inl rfl); omega
      · rintro rfl; have := far _ (.inr (.inl rfl)); omega
      · rintro rfl; have := far _ (.inr (.inr rfl)); omega
    refine ⟨rfl, vi', e', ?_, ?_, ⟨fun x hx g hg => ?_, fun g hg => ?_⟩⟩
    · refine BK7.out.kept BUT8.out.size (Nat.le_refl _) BUT8.out.size ?_ ?_ ?_
      · exact same bk BK7.out.bS (.inl NB.out)
      · intro g hg
        refine same g (BK7.out.vS g hg).1 ?_
        rcases AP7.out.list g hg with h | h
        · exact .inl (NV.out g h)
        · exact .inr h
      · intro e he x hx g hg
        have hl := (entT_lt BK7.out he hx hg).1
        refine same g hl ?_
        rcases List.mem_append.1 he with h | h
        · exact .inl (by have := (entT_lt HBK.out h hx hg).1; rw [HB0.out]; exact this)
        · simp at h
          subst h
          exact .inr (AP7.out.ent x hx g hg)
    · refine ⟨BUT8.out.os.trans (KP7.out.os.trans B06.out.os), BUT8.out.tape.trans (KP7.out.tape.trans B06.out.tape), BUT8.out.output.trans (KP7.out.output.trans B06.out.output), Nat.le_trans B06.out.size (Nat.le_trans KP7.out.size BUT8.out.size), fun k hk h1 h2 => ?_⟩
      rw [← HB0.out] at hk
      rw [same k (Nat.lt_of_lt_of_le (by rw [← HB0.out]; exact hk) (Nat.le_trans B06.out.size KP7.out.size)) (.inl hk)]
      exact S7.out k hk h1 h2
    · have := AP7.out.ent x hx g hg
      have := LB.out
      rw [SIZ3.out] at *
      rw [← HB0.out]; omega
    · rcases AP7.out.list g hg with h | h
      · exact .inl h
      · refine .inr ?_
        have := LB.out
        rw [SIZ3.out] at h
        rw [← HB0.out]; omega
end Go.Proofs.YtdbebbbceeopaaaGreat

set_option linter.unusedSimpArgs false
namespace Go.Proofs.YtdbebbbceeopaaaGreat
open Go.RowKit

theorem kpt_below {w w' : World} {S B bk : Nat} {vi vt : Value} {es : List (List Value)} (hB : Bt w B S bk vi es vt) (h : Kp w w' S bk vi) : Below B w w' := by
  have h1 := hB.bB
  have h2 := hB.bS
  refine ⟨h.os, h.tape, h.output, h.size, fun k hk => h.block k (by omega) (by omega) (fun e => ?_)⟩
  rcases hB.own.2 with ⟨h0, _⟩ | ⟨g, cap, cur, h0, hb, _⟩
  · rw [h0] at e; cases e
  · rw [h0] at e; simp [Value.ownBlock] at e; omega

theorem bt_ge {w : World} {S B bk : Nat} {vi vt : Value} {es : List (List Value)} (hB : Bt w B S bk vi es vt) {k : Nat} (hk : k < B) : k ≠ bk ∧ vi.ownBlock ≠ some k := by
  have h1 := hB.bB
  refine ⟨by omega, fun e => ?_⟩
  rcases hB.own.2 with ⟨h0, _⟩ | ⟨g, cap, cur, h0, hb, _⟩
  · rw [h0] at e; cases e
  · rw [h0] at e; simp [Value.ownBlock] at e; omega

set_option maxRecDepth 100000 in
set_option maxHeartbeats 4000000 in
theorem upTo2 (w : World) (p : Option Addr) (n c : Nat) (hops : Ops w p n) :
    Calls Tryz.prog 13 #[.slice p n c, .int .i64 2, .int .i64 2] w fun e w' => e = .returned (.bool true) ∧ Below w.heap.size w w' := by
  have hn := hops.1
  have HOP := hid hops.2
  clear hops
  go_enter Tryz.func13, Tryz.ntmps13
  go_wp2_with fail
  obtain ⟨B, hB⟩ : ∃ B, B = w.heap.size := ⟨_, rfl⟩
  obtain ⟨W, hW⟩ : ∃ W : World, W = w.alloc (.cells #[.slice none 0 0, .slice none 0 0] 59) := ⟨_, rfl⟩
  rw [← hW]
  have bk0 : Bt W B W.heap.size B (.slice none 0 0) [] := by
    have hh : W.heap[B]? = some (.cells #[.slice none 0 0, .slice none 0 0] 59 (0, 0)) := by rw [hW, hB]; exact heap_new _ _
    exact ⟨Nat.le_refl _, heap_lt hh, Nat.le_refl _, heap_cell hh 1, fun o => heap_free hh o, heap_cell hh 0, World.ownsRow_nil _ _ _ _, (fun g hg => by cases hg), fun i e he => by simp at he⟩
  have bel0 : Below B w W := by rw [hW, hB]; exact (Below.refl _ _).alloc (Nat.le_refl _) _
  have HB := hid hB
  rw [← hB]
  have BK0 := hid bk0
  have BEL0 := hid bel0
  clear hB hW bk0 bel0
  go_loopw [8] (fun i wr => ∃ (m : Nat) (vi : Value) (es : List (List Value)), m ≤ 1 ∧ i = .int .i64 (2 + (m : Int)) ∧ es.length = m ∧ Hid (Bt wr B wr.heap.size B vi es) ∧ Hid (Below B w wr)) (fun i _ => 3 - (intOf i).toNat)
  case atStart => exact ⟨0, _, [], Nat.zero_le _, rfl, rfl, BK0, BEL0⟩
  case round =>
    obtain ⟨m, vi, es, hm, rfl, hes, hK, hW⟩ := hrel
    rcases (by omega : m = 0 ∨ m = 1) with rfl | rfl
    · rw [show (2 + ((0 : Nat) : Int)) = 2 from rfl]
      go_wp2_with fail
      refine (corners_kd 2 wr).mono ?_
      rintro e W2 ⟨bel2, siz2, rfl, ce1, ce2⟩
      have bk2 : Bt W2 B W2.heap.size B vi es := hK.out.below bel2 bel2.size (Nat.le_refl _)
      go_wp2_with fail
      have hbk := hK.out.bS
      refine (plays2 W2 B B vi es 1 1 _ _ _ 3 0 1 [0, 0, 0, 4, 4, 0] [] [0, 2, 1] (by omega) (by omega) (by omega) bk2 (by omega) (src_corners ce1) (src_nil _ _) (src_one ce2) ?hq).mono ?_
      case hq =>
        intro v hv a n c e hn
        simp at hv
        rcases hv with rfl | rfl | rfl
        · cases e
          exact ⟨by show wr.heap.size + 1 < _; omega, by show wr.heap.size + 1 ≠ _; omega, fun e => by have := (hK.out.vS _ e).1; simp at this; omega⟩
        · cases e
        · cases e
          exact ⟨by show wr.heap.size + 2 < _; omega, by show wr.heap.size + 2 ≠ _; omega, fun e => by have := (hK.out.vS _ e).1; simp at this; omega⟩
      rintro e W3 ⟨rfl, vi', e', bk3, kp3, _⟩
      have hB3 : Below B w W3 := hW.out.trans ((bel2.mono (Nat.le_of_lt hbk)).trans (kpt_below bk2 kp3))
      have BK3 := hid bk3
      have BEL3 := hid hB3
      clear bk2 bk3 kp3 hB3 ce1 ce2 bel2 siz2 hbk
      go_wp2_with fail
      exact ⟨⟨1, vi', es ++ [e'], Nat.le_refl _, rfl, by simp [hes], BK3, BEL3⟩, by simp [intOf]⟩
    · rw [show (2 + ((1 : Nat) : Int)) = 3 from rfl]
      go_wp2_with fail
      obtain ⟨W2, rfl⟩ : ∃ W2, W2 = wr := ⟨wr, rfl⟩
      go_loopw [10] (fun i wr => ∃ (k : Nat) (vi : Value) (es : List (List Value)), k ≤ n ∧ i = .int .i64 k ∧ es.length ≤ k + 1 ∧ Hid (Bt wr B wr.heap.size B vi es) ∧ Hid (Below B w wr)) (fun i _ => n - (intOf i).toNat)
      case atStart => exact ⟨0, vi, es, Nat.zero_le _, rfl, by omega, hK, hW⟩
      case round =>
        clear hK hW hes
        obtain ⟨k, vi, es, hk, rfl, hes, hK, hW⟩ := hrel
        by_cases hlt : k < n
        · obtain ⟨b, o, kd, x, y, v1, v2, v3, n1, n2, n3, z1, z2, z3, rfl, hO⟩ := HOP.out k hlt
          have HO := hid hO
          have hbB : b < B := by rw [HB.out]; exact World.block_lt_of_cell? w _ hO.c0
          have d0 : wr.cell? ⟨b, o + k * 6, none⟩ = some (.int .i64 kd) := (hW.out.cell hbB).trans hO.c0
          have d1 : wr.cell? ⟨b, o + k * 6 + 1, none⟩ = some v1 := (hW.out.cell hbB).trans hO.c1
          have d2 : wr.cell? ⟨b, o + k * 6 + 2, none⟩ = some v2 := (hW.out.cell hbB).trans hO.c2
          have d3 : wr.cell? ⟨b, o + k * 6 + 3, none⟩ = some v3 := (hW.out.cell hbB).trans hO.c3
          have d4 : wr.cell? ⟨b, o + k * 6 + 4, none⟩ = some (.int .i64 x) := (hW.out.cell hbB).trans hO.c4
          have d5 : wr.cell? ⟨b, o + k * 6 + 5, none⟩ = some (.int .i64 y) := (hW.out.cell hbB).trans hO.c5
          obtain ⟨p1, c1, rfl⟩ : ∃ p c, v1 = .slice p n1 c := by obtain ⟨_, p, c, e, _⟩ := hO.s1; exact ⟨p, c, e⟩
          obtain ⟨p2, c2, rfl⟩ : ∃ p c, v2 = .slice p n2 c := by obtain ⟨_, p, c, e, _⟩ := hO.s2; exact ⟨p, c, e⟩
          obtain ⟨p3, c3, rfl⟩ : ∃ p c, v3 = .slice p n3 c := by obtain ⟨_, p, c, e, _⟩ := hO.s3; exact ⟨p, c, e⟩
          have i0 : (k : Int) < n := by omega
          have BEL1 : Hid (Below B w (wr.alloc (.cells #[.int .i64 kd, .slice p1 n1 c1, .slice p2 n2 c2, .slice p3 n3 c3, .int .i64 x, .int .i64 y] 62))) := hid (hW.out.alloc (by have := hK.out.bS; omega) _)
          have BK1 : Hid (Bt (wr.alloc (.cells #[.int .i64 kd, .slice p1 n1 c1, .slice p2 n2 c2, .slice p3 n3 c3, .int .i64 x, .int .i64 y] 62)) B (wr.alloc (.cells #[.int .i64 kd, .slice p1 n1 c1, .slice p2 n2 c2, .slice p3 n3 c3, .int .i64 x, .int .i64 y] 62)).heap.size B vi es) :=
            hid (hK.out.below ((Below.refl _ _).alloc (Nat.le_refl _) _) (by rw [size_new]; omega) (Nat.le_refl _))
          clear hO
          rcases (by omega : kd = 2 ∨ kd < 2 ∨ 2 < kd) with rfl | hkd | hkd
          · go_wp2_with fail
            obtain ⟨W3, hW3⟩ : ∃ W3 : World, W3 = wr.alloc (.cells #[.int .i64 2, .slice p1 n1 c1, .slice p2 n2 c2, .slice p3 n3 c3, .int .i64 x, .int .i64 y] 62) := ⟨_, rfl⟩
            rw [← hW3] at BEL1 BK1 ⊢
            clear hW3 d0 d1 d2 d3 d4 d5
            have BW : Hid (Below w.heap.size w W3) := by rw [HB.out] at BEL1; exact BEL1
            refine (plays2 W3 B B vi es x y (.slice p1 n1 c1) (.slice p2 n2 c2) (.slice p3 n3 c3) n1 n2 n3 z1 z2 z3 HO.out.h1 HO.out.h2 HO.out.h3 BK1.out (by omega) (HO.out.s1.below BW.out) (HO.out.s2.below BW.out) (HO.out.s3.below BW.out) ?hq).mono ?_
            case hq =>
              intro v hv a n c e hn
              have hlt : a.block < w.heap.size := by
                simp at hv
                rcases hv with rfl | rfl | rfl
                · rw [e] at HO; exact HO.out.s1.lt (by omega) hn
                · rw [e] at HO; exact HO.out.s2.lt (by omega) hn
                · rw [e] at HO; exact HO.out.s3.lt (by omega) hn
              have := bt_ge BK1.out (k := a.block) (by rw [HB.out]; exact hlt)
              exact ⟨Nat.lt_of_lt_of_le hlt BW.out.size, this⟩
            rintro e W4 ⟨rfl, vi', e', bk4, kp4, _⟩
            have BK4 := hid bk4
            have BEL4 := hid (BEL1.out.trans (kpt_below BK1.out kp4))
            clear bk4 kp4
            go_wp2_with fail
            refine (looksT_any W4 B W4.heap.size B vi' (es ++ [e']) BK4.out (by simp; omega)).mono ?_
            rintro e W5 ⟨rfl, bel5⟩
            have BK5 := hid (BK4.out.below bel5 bel5.size (Nat.le_refl _))
            have BEL5 := hid (BEL4.out.trans (bel5.mono (Nat.le_of_lt BK4.out.bS)))
            clear bel5
            go_wp2_with fail
            exact ⟨⟨k + 1, vi', es ++ [e'], by omega, by go_num, by simp; omega, BK5, BEL5⟩, by simp [intOf]; omega⟩
          · have j1 : ¬ (2 : Int) ≤ kd := by omega
            go_wp2_with fail
            exact ⟨⟨k + 1, vi, es, by omega, by go_num, by omega, BK1, BEL1⟩, by simp [intOf]; omega⟩
          · have j1 : (2 : Int) ≤ kd := by omega
            have j2 : ¬ kd ≤ 2 := by omega
            go_wp2_with fail
            exact ⟨⟨k + 1, vi, es, by omega, by go_num, by omega, BK1, BEL1⟩, by simp [intOf]; omega⟩
        · have hkn : k = n := by omega
          subst hkn
          go_wp2_with fail
          go_ret
          exact ⟨rfl, by rw [← HB.out]; exact hW.out⟩

set_option maxRecDepth 100000 in
theorem meshes_any (w : World) (p : Option Addr) (n c : Nat) (hops : Ops w p n) :
    Calls Tryz.prog 4 #[.slice p n c] w fun e w' => e = .returned (.bool true) ∧ Below w.heap.size w w' := by
  have H := hid (upTo2 w p n c hops)
  clear hops
  go_enter Tryz.func4, Tryz.ntmps4
  go_wp2_with fail
  refine H.out.mono ?_
  rintro e w' ⟨rfl, hb⟩
  go_wp2_with fail
  go_ret
  exact ⟨rfl, hb⟩
end Go.Proofs.YtdbebbbceeopaaaGreat
