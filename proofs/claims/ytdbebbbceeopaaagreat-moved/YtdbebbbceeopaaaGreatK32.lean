import Derived.Test.YtdbebbbceeopaaaGreatK31
set_option linter.unusedSimpArgs false
namespace Go.Proofs.YtdbebbbceeopaaaGreat
open Go.RowKit

set_option maxRecDepth 100000 in
set_option maxHeartbeats 4000000 in
theorem lined_any (a : Option Addr) (len cap : Nat) (sz : Int) (lv : Value) (w : World)
    (hpts : Calls Tryz.prog 14 #[.slice a len cap, .int .i64 sz] w fun e w' => ∃ v N ps, e = .returned v ∧ Below w.heap.size w w' ∧ Sq N ps ∧ w'.ownsRow w.heap.size 35 2 v ps.length (cellsP ps))
    (hfan : ∀ (n : Nat) (W : World), 3 ≤ n → n ≤ 40 → Below w.heap.size w W → Calls Tryz.prog 26 #[.int .i64 n, lv] W fun e w' => ∃ v : Value, e = .returned v ∧ Below W.heap.size W w' ∧ FanR n W.heap.size w' v) :
    Calls Tryz.prog 11 #[.slice a len cap, .int .i64 sz, lv] w fun e w' => e = .returned (.bool true) ∧ Below w.heap.size w w' := by
  have C1 := hid (points_set hpts)
  have HFAN := hid hfan
  clear hpts hfan
  go_enter Tryz.func11, Tryz.ntmps11
  go_wp2_with fail
  refine C1.out.mono ?_
  rintro e w1 ⟨g, n, cp, px, py, rfl, hb1, hcp, hS, hP⟩
  have HB1 := hid hb1
  have HS := hid hS
  have HP1 := hid hP
  have hn3 := hS.len
  have hn30 := hS.len'
  have BDS := hid (refI_bds hS.ref)
  have INJ : Hid (Geo.Inj px py n) := hid (refI_inj hS.ref)
  clear C1 hb1 hS hP
  have C2 := hid (HFAN.out n w1 hn3 (by omega) HB1.out)
  clear HFAN
  go_wp2_with fail
  refine C2.out.mono ?_
  rintro e w2 ⟨v, rfl, hb2, hFR⟩
  obtain ⟨la, lcap, ys, rfl, h7, hLn, hY, hC3⟩ := fan_bound hFR
  have HB2 := hid (HB1.out.trans (hb2.mono HB1.out.size))
  have HP2 := hid (HP1.out.below hb2 HP1.out.lt)
  have C3 := hid (hC3 px py g cp HP2.out hn3 (by omega) hcp HS.out.ref)
  have HLN := hid hLn
  have HY := hid hY
  clear C2 hb2 hFR hLn hY hC3 HP1 HB1
  obtain ⟨lk, hlk⟩ : ∃ lk, lk = ys.length := ⟨_, rfl⟩
  have HLK := hid hlk
  rw [← hlk] at C3 h7 ⊢
  clear hlk
  go_wp2_with fail
  refine C3.out.mono ?_
  rintro e w3 ⟨u, r, rfl, hb3, hU⟩
  have HU := hid hU
  have HB3 := hid (HB2.out.trans (hb3.mono HB2.out.size))
  have HP3 := hid (HP2.out.below hb3 HP2.out.lt)
  have HLN3 := hid (HLN.out.below hb3)
  clear C3 hb3 hU HB2 HP2 HLN
  have C4 := hid (bound_none px py n g cp w3 HP3.out hn3 (by omega) hcp HS.out.ref)
  go_wp2_with fail
  refine C4.out.mono ?_
  rintro e w4 ⟨hb4, g4, cp4, d4, M4, hs4, rfl, hd4, hTr4, hT4, hM4, hL4⟩
  have HB4 := hid (HB3.out.trans (hb4.mono HB3.out.size))
  have HP4 := hid (HP3.out.below hb4 HP3.out.lt)
  have HLN4 := hid (HLN3.out.below hb4)
  have H34 := hid hb4
  have HTR4 := hid hTr4
  have HT4 := hid hT4
  have HM4 := hid hM4
  have HL4 := hid hL4
  clear C4 hb4 hTr4 hT4 hM4 hL4 HB3 HP3 HLN3
  have C5 := hid (tri_set HS.out g cp w4 HP4.out hcp)
  go_wp2_with fail
  refine C5.out.mono ?_
  rintro e w5 ⟨hb5, g5, cp5, d5, M5, hs5, rfl, hd5, hd50, hTr5, hT5, hM5, hL5⟩
  have HB5 := hid (HB4.out.trans (hb5.mono HB4.out.size))
  have HP5 := hid (HP4.out.below hb5 HP4.out.lt)
  have HLN5 := hid (HLN4.out.below hb5)
  have H35 := hid (H34.out.trans (hb5.mono H34.out.size))
  have HTR45 := hid (HTR4.out.below hb5)
  have HTR5 := hid hTr5
  have EK : d5.size = d4.size := by
    have c1 := HM4.out.count hn3 HS.out.ref INJ.out HT4.out.lists
    have c2 := hM5.count hn3 HS.out.ref INJ.out hT5.lists
    omega
  have EQ : Hid (∀ i, i < d4.size → Geo.Free px py n → dA d4 i = dA d5 i ∧ dB d4 i = dB d5 i ∧ dC d4 i = dC d5 i) := hid fun i hi hf =>
    same_lists HM4.out.mesh INJ.out HM4.out.cor HL4.out hM5.mesh hM5.cor hL5 hf HT4.out.lists hT5.lists i hi (by omega)
  have S1 : Hid (∀ W, Below w5.heap.size w5 W → Calls Tryz.prog 16 #[.slice (some ⟨g, 0, none⟩) n cp, u] W fun e w' => e = .returned (.bool true) ∧ Below W.heap.size W w') := hid (fun W hW =>
    HU.out.sane BDS.out g cp W (H35.out.trans (hW.mono H35.out.size)) (HP5.out.below hW HP5.out.lt))
  have S2 : Hid (∀ W, Below w5.heap.size w5 W → Calls Tryz.prog 16 #[.slice (some ⟨g, 0, none⟩) n cp, .slice (some ⟨g4, 0, none⟩) d4.size cp4] W fun e w' => e = .returned (.bool true) ∧ Below W.heap.size W w') := hid (fun W hW =>
    sane_few BDS.out HT4.out HM4.out g cp g4 cp4 W (HP5.out.below hW HP5.out.lt) (HTR45.out.below hW) hd4)
  have S3 : Hid (∀ W, Below w5.heap.size w5 W → Calls Tryz.prog 16 #[.slice (some ⟨g, 0, none⟩) n cp, .slice (some ⟨g5, 0, none⟩) d5.size cp5] W fun e w' => e = .returned (.bool true) ∧ Below W.heap.size W w') := hid (fun W hW =>
    sane_few BDS.out hT5 hM5 g cp g5 cp5 W (HP5.out.below hW HP5.out.lt) (HTR5.out.below hW) hd5)
  have R4 := hid (HT4.out.row3 HM4.out.mesh)
  have R5 := hid (hT5.row3 hM5.mesh)
  have SD : Hid (∀ y ∈ ys, ∀ W, Below w5.heap.size w5 W → Calls Tryz.prog 18 #[u, .int .i64 (y.1 : Nat), .int .i64 (y.2 : Nat)] W fun e w' => SdR r e ∧ Below W.heap.size W w') := hid (fun y hy W hW =>
    HU.out.side hy (HY.out y hy).2.2 W (H35.out.trans (hW.mono H35.out.size)))
  have UQ := hid (fun W (hW : Below w5.heap.size w5 W) => unique_any px py n g cp W (HP5.out.below hW HP5.out.lt) (by omega) BDS.out)
  clear C5 hb5 hTr5 hT5 hM5 hL5 HT4 HM4 HL4 HTR4 HB4 HP4 HLN4 H34
  rw [EK] at S3 R5 HTR5 hd5 ⊢
  obtain ⟨m, hm⟩ : ∃ m, m = d4.size := ⟨_, rfl⟩
  rw [← hm] at S2 S3 R4 R5 HTR45 HTR5 hd4 EQ ⊢
  clear hm EK hd50 hd5
  have dmm : ((m : Int) != (m : Int)) = false := by simp
  go_wp2_with fail
  refine (S1.out w5 (Below.refl _ _)).mono ?_
  rintro e w6 ⟨rfl, hb6⟩
  have HB6 := hid hb6
  clear hb6 S1
  go_wp2_with fail
  refine (S2.out w6 HB6.out).mono ?_
  rintro e w7 ⟨rfl, hb7⟩
  have HB7 := hid (HB6.out.trans (hb7.mono HB6.out.size))
  clear hb7 S2 HB6
  go_wp2_with fail
  refine (S3.out w7 HB7.out).mono ?_
  rintro e w8 ⟨rfl, hb8⟩
  have HB8 := hid (HB7.out.trans (hb8.mono HB7.out.size))
  clear hb8 S3 HB7
  go_wp2_with fail
  go_loopw [16] (fun i wr => ∃ k : Nat, k ≤ m ∧ i = .int .i64 k ∧ Hid (Below w5.heap.size w5 wr)) (fun i _ => m - (intOf i).toNat)
  case atStart => exact ⟨0, Nat.zero_le _, rfl, HB8⟩
  case round =>
    obtain ⟨i, hi, rfl, HB⟩ := hrel
    clear HB8
    by_cases him : i < m
    · have him' : (i : Int) < m := by omega
      obtain ⟨z0, z1, z2⟩ := R4.out.z i him
      obtain ⟨s0, s1, s2⟩ := (HTR45.out.below HB.out).2 i him
      rw [z0] at s0
      rw [z1] at s1
      rw [z2] at s2
      obtain ⟨y0, y1, y2⟩ := R5.out.z i him
      obtain ⟨t0, t1, t2⟩ := (HTR5.out.below HB.out).2 i him
      rw [y0] at t0
      rw [y1] at t1
      rw [y2] at t2
      rw [Nat.zero_add] at s0 s1 s2 t0 t1 t2
      have E' := EQ.out i him
      obtain ⟨xa, hxa⟩ : ∃ x : Int, x = (dA d4 i : Nat) := ⟨_, rfl⟩
      obtain ⟨xb, hxb⟩ : ∃ x : Int, x = (dB d4 i : Nat) := ⟨_, rfl⟩
      obtain ⟨xc, hxc⟩ : ∃ x : Int, x = (dC d4 i : Nat) := ⟨_, rfl⟩
      obtain ⟨ya, hya⟩ : ∃ x : Int, x = (dA d5 i : Nat) := ⟨_, rfl⟩
      obtain ⟨yb, hyb⟩ : ∃ x : Int, x = (dB d5 i : Nat) := ⟨_, rfl⟩
      obtain ⟨yc, hyc⟩ : ∃ x : Int, x = (dC d5 i : Nat) := ⟨_, rfl⟩
      have E : Hid (Geo.Free px py n → xa = ya ∧ xb = yb ∧ xc = yc) := hid (fun hf => by have := E' hf; omega)
      rw [← hxa] at s0
      rw [← hxb] at s1
      rw [← hxc] at s2
      rw [← hya] at t0
      rw [← hyb] at t1
      rw [← hyc] at t2
      clear hxa hxb hxc hya hyb hyc E' z0 z1 z2 y0 y1 y2
      by_cases heq : xa = ya ∧ xb = yb ∧ xc = yc
      · obtain ⟨rfl, rfl, rfl⟩ := heq
        have NE := ne66 xa xb xc
        go_wp2_with fail
        go_quiet (fail)
        go_wp2_with fail
        go_roundw
        case rel => exact ⟨i + 1, by omega, by go_num, hid (below_drewN HB.out _)⟩
        case measure => simp [intOf]; omega
      · have NE : ∀ W, (binOp .neq 46 (.agg #[.int .i64 xa, .int .i64 xb, .int .i64 xc]) (.agg #[.int .i64 ya, .int .i64 yb, .int .i64 yc])).run Tryz.prog W = .ok (.bool true) W := fun W => by
          rw [neTr]
          have : (xa == ya && (xb == yb && xc == yc)) = false := by
            rw [← Bool.not_eq_true]
            simpa using heq
          rw [this]; rfl
        have HNE := hid heq
        have C9 := hid (UQ.out wr.drew HB.out.drew)
        have START := And.intro s0 (And.intro s1 (And.intro s2 (And.intro t0 (And.intro t1 t2))))
        have q1 : (0 : Int) ≤ (i : Int) := by omega
        have gl4 : g4 < wr.heap.size := (HTR45.out.below HB.out).1
        have gl5 : g5 < wr.heap.size := (HTR5.out.below HB.out).1
        clear heq
        go_wp2_with fail
        go_region_held3 (fun w' => w'.cell? ⟨g4, i * 3, none⟩ = some (.int .i64 xa) ∧ w'.cell? ⟨g4, i * 3 + 1, none⟩ = some (.int .i64 xb) ∧ w'.cell? ⟨g4, i * 3 + 2, none⟩ = some (.int .i64 xc) ∧ w'.cell? ⟨g5, i * 3, none⟩ = some (.int .i64 ya) ∧ w'.cell? ⟨g5, i * 3 + 1, none⟩ = some (.int .i64 yb) ∧ w'.cell? ⟨g5, i * 3 + 2, none⟩ = some (.int .i64 yc)) (go_keep)
          ((go_at_call 20; refine C9.out.mono ?_; rintro e w9 ⟨⟨b, rfl, hfree⟩, hb9⟩; have bf : b = false := (by cases b with | false => rfl | true => exact absurd (E.out (hfree rfl)) HNE.out); subst bf; have HB9 := hid (HB.out.drew.trans (hb9.mono HB.out.size)); have u0 := (hb9.cell (p := ⟨g4, i * 3, none⟩) gl4).trans s0; have u1 := (hb9.cell (p := ⟨g4, i * 3 + 1, none⟩) gl4).trans s1; have u2 := (hb9.cell (p := ⟨g4, i * 3 + 2, none⟩) gl4).trans s2; have v0 := (hb9.cell (p := ⟨g5, i * 3, none⟩) gl5).trans t0; have v1 := (hb9.cell (p := ⟨g5, i * 3 + 1, none⟩) gl5).trans t1; have v2 := (hb9.cell (p := ⟨g5, i * 3 + 2, none⟩) gl5).trans t2; clear hb9 hfree))
        clear START u0 u1 u2 v0 v1 v2 s0 s1 s2 t0 t1 t2
        go_wp2_with fail
        go_roundw
        case rel => exact ⟨i + 1, by omega, by go_num, HB9⟩
        case measure => simp [intOf]; omega
    · have hkm : i = m := by omega
      subst hkm
      go_wp2_with fail
      clear UQ EQ R4 R5 HTR45 HTR5 hi him
      go_loopw [17, 18] (fun t i wr => ∃ k : Nat, k ≤ lk ∧ i = .int .i64 k ∧ t = .bool (thX px py n ys k) ∧ Hid (Below w5.heap.size w5 wr)) (fun _ i _ => lk - (intOf i).toNat)
      case atStart => exact ⟨0, Nat.zero_le _, rfl, rfl, HB⟩
      case round =>
        clear HB
        obtain ⟨i, hi, rfl, rfl, HB⟩ := hrel
        by_cases hil : i < lk
        · have hiy : i < ys.length := by rw [← HLK.out]; exact hil
          have hil' : (i : Int) < lk := by omega
          obtain ⟨gy, oy, rfl, hgy, hcy⟩ : ∃ gy oy, la = some ⟨gy, oy, none⟩ ∧ gy < wr.heap.size ∧ ∀ i, (hi : i < ys.length) → wr.cell? ⟨gy, oy + i * 2, none⟩ = some (.int .i64 (ys[i].1 : Nat)) ∧ wr.cell? ⟨gy, oy + i * 2 + 1, none⟩ = some (.int .i64 (ys[i].2 : Nat)) := by
            rcases HLN5.out.below HB.out with h | h
            · subst h; simp at hiy
            · exact h
          obtain ⟨c1, c2⟩ := hcy i hiy
          have hm := List.getElem_mem hiy
          have hab := HY.out _ hm
          have SDi := hid (SD.out _ hm)
          have TX : Hid (thX px py n ys (i + 1) = (thX px py n ys i || thK px py ys[i].1 ys[i].2 n)) := hid (by
            rw [thX, List.getD_eq_getElem?_getD, List.getElem?_eq_getElem hiy, Option.getD_some])
          obtain ⟨A, hA⟩ : ∃ A, A = ys[i].1 := ⟨_, rfl⟩
          obtain ⟨B, hB⟩ : ∃ B, B = ys[i].2 := ⟨_, rfl⟩
          rw [← hA, ← hB] at hab SDi TX
          rw [← hA] at c1
          rw [← hB] at c2
          clear hA hB hcy hm hiy
          obtain ⟨hA, hB, hAB⟩ := hab
          have hpw := HP5.out.below HB.out HP5.out.lt
          have xa := hpw.x A hA
          have ya := hpw.y A hA
          have xb := hpw.x B hB
          have yb := hpw.y B hB
          rw [Nat.zero_add] at xa ya xb yb
          have a' : (A : Int) < n := by omega
          have b' : (B : Int) < n := by omega
          have c2' : ∀ o, (wr.alloc o).cell? ⟨gy, oy + i * 2 + 1, none⟩ = some (.int .i64 (B : Nat)) := fun o => cell_new c2
          have xb' : ∀ o, (wr.alloc o).cell? ⟨g, B * 2, none⟩ = some (.int .i64 (px B)) := fun o => cell_new xb
          have yb' : ∀ o, (wr.alloc o).cell? ⟨g, B * 2 + 1, none⟩ = some (.int .i64 (py B)) := fun o => cell_new yb
          have HC := hid (And.intro c1 c2)
          obtain ⟨tx, htx⟩ : ∃ tx, tx = thX px py n ys i := ⟨_, rfl⟩
          rw [← htx] at TX ⊢
          clear htx hpw c2 xb yb
          go_wp2_with fail
          obtain ⟨W3, hW3⟩ : ∃ W3 : World, W3 = (wr.alloc (.cells #[.int .i64 (px A), .int .i64 (py A)] 35)).alloc (.cells #[.int .i64 (px B), .int .i64 (py B)] 35) := ⟨_, rfl⟩
          have hB3 : Below wr.heap.size wr W3 := by rw [hW3]; exact ((Below.refl _ _).alloc (Nat.le_refl _) _).alloc (by simp) _
          have hsz : W3.heap.size = wr.heap.size + 1 + 1 := by rw [hW3]; simp
          have c0 : W3.cell? ⟨wr.heap.size, 0, none⟩ = some (.int .i64 (px A)) ∧ W3.cell? ⟨wr.heap.size, 1, none⟩ = some (.int .i64 (py A)) ∧ W3.cell? ⟨wr.heap.size + 1, 0, none⟩ = some (.int .i64 (px B)) ∧ W3.cell? ⟨wr.heap.size + 1, 1, none⟩ = some (.int .i64 (py B)) := by
            rw [hW3]
            refine ⟨?_, ?_, ?_, ?_⟩
            · rw [World.cell?_alloc_past _ _ _ (by simp), World.cell?_alloc_at _ _ _ _ (by simp)]; rfl
            · rw [World.cell?_alloc_past _ _ _ (by simp), World.cell?_alloc_at _ _ _ _ (by simp)]; rfl
            · rw [World.cell?_alloc_at _ _ _ _ (by simp)]; rfl
            · rw [World.cell?_alloc_at _ _ _ _ (by simp)]; rfl
          rw [← hW3]
          have HB3 := hid (HB.out.trans (hB3.mono HB.out.size))
          have HC3 : Hid (∀ W, Below W3.heap.size W3 W → W.cell? ⟨gy, oy + i * 2, none⟩ = some (.int .i64 (A : Nat)) ∧ W.cell? ⟨gy, oy + i * 2 + 1, none⟩ = some (.int .i64 (B : Nat))) := hid fun W hW => by
            have hb := hB3.trans (hW.mono hB3.size)
            exact ⟨(hb.cell (by exact hgy)).trans HC.out.1, (hb.cell (by exact hgy)).trans HC.out.2⟩
          obtain ⟨ba, hba⟩ : ∃ ba, ba = wr.heap.size := ⟨_, rfl⟩
          obtain ⟨bb, hbb⟩ : ∃ bb, bb = wr.heap.size + 1 := ⟨_, rfl⟩
          rw [← hbb, ← hba] at c0
          rw [← hbb, ← hba]
          have la3 : ba < W3.heap.size := by omega
          have lb3 : bb < W3.heap.size := by omega
          have K0 := hid c0
          clear hW3 hB3 hsz c0 HC hgy c1 c2' xa ya xb' yb' hba hbb
          go_loopw [17, 21] (fun t k wr => ∃ j : Nat, j ≤ n ∧ k = .int .i64 j ∧ t = .bool (tx || thK px py A B j) ∧ Hid (Below W3.heap.size W3 wr)) (fun _ k _ => n - (intOf k).toNat)
          case atStart => exact ⟨0, Nat.zero_le _, rfl, by simp [thK], hid (Below.refl _ _)⟩
          case round =>
            clear HB
            obtain ⟨j, hj, rfl, rfl, HB⟩ := hrel
            by_cases hjn : j < n
            · have hjn' : (j : Int) < n := by omega
              have NX : Hid ((tx || thK px py A B (j + 1)) = ((tx || thK px py A B j) || betwB px py A B j)) := hid (by rw [thK, Bool.or_assoc])
              have BQ := hid (betwB_eq (px := px) (py := py) (a := A) (b := B) (p := j) (fun e => hAB (INJ.out A B hA hB e.1 e.2)))
              obtain ⟨tv, htv⟩ : ∃ tv, tv = (tx || thK px py A B j) := ⟨_, rfl⟩
              rw [← htv] at NX ⊢
              clear htv
              have hpw := HP5.out.below (HB3.out.trans (HB.out.mono HB3.out.size)) HP5.out.lt
              have xj := hpw.x j hjn
              have yj := hpw.y j hjn
              rw [Nat.zero_add] at xj yj
              have gl := hpw.lt
              have q1 : (0 : Int) ≤ (j : Int) := by omega
              have Bap := bd4 BDS.out hA hjn
              have Bab := bd4 BDS.out hA hB
              have Bbp := bd4 BDS.out hB hjn
              have B6 : Bd6 (px A) (py A) (px B) (py B) (px j) (py j) := ⟨bd4 BDS.out hA hB, (BDS.out j hjn).1, (BDS.out j hjn).2⟩
              have TN := hid turn_6
              have SQ := hid square_4
              clear hpw
              go_wp2_with fail
              obtain ⟨W4, hW4⟩ : ∃ W4 : World, W4 = wr.alloc (.cells #[.int .i64 (px j), .int .i64 (py j)] 35) := ⟨_, rfl⟩
              have hB4 : Below wr.heap.size wr W4 := by rw [hW4]; exact (Below.refl _ _).alloc (Nat.le_refl _) _
              obtain ⟨bp, hbp⟩ : ∃ bp, bp = wr.heap.size := ⟨_, rfl⟩
              have la4 : ba < W4.heap.size := Nat.lt_of_lt_of_le la3 (Nat.le_trans HB.out.size hB4.size)
              have lb4 : bb < W4.heap.size := Nat.lt_of_lt_of_le lb3 (Nat.le_trans HB.out.size hB4.size)
              have lp4 : bp < W4.heap.size := by rw [hW4, hbp]; simp
              have c4 : W4.cell? ⟨ba, 0, none⟩ = some (.int .i64 (px A)) ∧ W4.cell? ⟨ba, 1, none⟩ = some (.int .i64 (py A)) ∧ W4.cell? ⟨bb, 0, none⟩ = some (.int .i64 (px B)) ∧ W4.cell? ⟨bb, 1, none⟩ = some (.int .i64 (py B)) ∧ W4.cell? ⟨bp, 0, none⟩ = some (.int .i64 (px j)) ∧ W4.cell? ⟨bp, 1, none⟩ = some (.int .i64 (py j)) := by
                have hb := HB.out.trans (hB4.mono HB.out.size)
                refine ⟨(hb.cell (by exact la3)).trans K0.out.1, (hb.cell (by exact la3)).trans K0.out.2.1, (hb.cell (by exact lb3)).trans K0.out.2.2.1, (hb.cell (by exact lb3)).trans K0.out.2.2.2, ?_, ?_⟩
                · rw [hW4, World.cell?_alloc_at _ _ _ _ (by simp [hbp])]; rfl
                · rw [hW4, World.cell?_alloc_at _ _ _ _ (by simp [hbp])]; rfl
              have KEEP : Hid (∀ W, Below W4.heap.size W4 W → W.cell? ⟨ba, 0, none⟩ = some (.int .i64 (px A)) ∧ W.cell? ⟨ba, 1, none⟩ = some (.int .i64 (py A)) ∧ W.cell? ⟨bb, 0, none⟩ = some (.int .i64 (px B)) ∧ W.cell? ⟨bb, 1, none⟩ = some (.int .i64 (py B)) ∧ W.cell? ⟨bp, 0, none⟩ = some (.int .i64 (px j)) ∧ W.cell? ⟨bp, 1, none⟩ = some (.int .i64 (py j))) := hid fun W hW => by
                obtain ⟨k0, k1, k2, k3, k4, k5⟩ := c4
                exact ⟨(hW.cell (by exact la4)).trans k0, (hW.cell (by exact la4)).trans k1, (hW.cell (by exact lb4)).trans k2, (hW.cell (by exact lb4)).trans k3, (hW.cell (by exact lp4)).trans k4, (hW.cell (by exact lp4)).trans k5⟩
              have HBW : Hid (∀ W, Below W4.heap.size W4 W → Below W3.heap.size W3 W) := hid fun W hW => (HB.out.trans (hB4.mono HB.out.size)).trans (hW.mono (Nat.le_trans HB.out.size hB4.size))
              have START := KEEP.out W4.drew (Below.refl _ _).drew
              rw [← hW4, ← hbp]
              clear hW4 hbp c4 hB4 xj yj gl
              by_cases hT : T px py A B j = 0
              · have dT : (tw (px A) (py A) (px B) (py B) (px j) (py j) == 0) = true := by rw [beq_iff_eq]; exact hT
                by_cases h1 : sqI (px A) (py A) (px j) (py j) < sqI (px A) (py A) (px B) (py B)
                · have d1 : decide (sqI (px A) (py A) (px j) (py j) < sqI (px A) (py A) (px B) (py B)) = true := decide_eq_true h1
                  by_cases h2 : sqI (px B) (py B) (px j) (py j) < sqI (px A) (py A) (px B) (py B)
                  · have d2 : decide (sqI (px B) (py B) (px j) (py j) < sqI (px A) (py A) (px B) (py B)) = true := decide_eq_true h2
                    have BWX : Hid (betwB px py A B j = (!(px j == px A && py j == py A) && !(px j == px B && py j == py B))) := hid (by rw [BQ.out, decide_eq_true hT, d1, d2]; rfl)
                    have NE1 := nePt (px j) (py j) (px A) (py A)
                    have NE2 := nePt (px j) (py j) (px B) (py B)
                    clear BQ hT
                    go_region_held3 (fun w' => w'.cell? ⟨ba, 0, none⟩ = some (.int .i64 (px A)) ∧ w'.cell? ⟨ba, 1, none⟩ = some (.int .i64 (py A)) ∧ w'.cell? ⟨bb, 0, none⟩ = some (.int .i64 (px B)) ∧ w'.cell? ⟨bb, 1, none⟩ = some (.int .i64 (py B)) ∧ w'.cell? ⟨bp, 0, none⟩ = some (.int .i64 (px j)) ∧ w'.cell? ⟨bp, 1, none⟩ = some (.int .i64 (py j))) (assumption)
                      (first | (go_at_call 23; refine (TN.out _ _ _ _ _ _ _ (by assumption)).mono ?_; rintro e w6 ⟨rfl, hb6⟩; have HB6 : Hid (Below W4.heap.size W4 w6) := hid ((Below.refl _ _).drew.trans hb6); have HK := KEEP.out w6 HB6.out; clear hb6) | (go_at_call 17; refine (SQ.out _ _ _ _ _ (by assumption)).mono ?_; rintro e w6 ⟨rfl, hb6⟩; have HB6 : Hid (Below W4.heap.size W4 w6) := hid (HB6.out.trans (hb6.mono HB6.out.size)); have HK := KEEP.out w6 HB6.out; clear hb6))
                    clear START
                    have HBF := hid (HBW.out _ HB6.out)
                    obtain ⟨k0, k1, k2, k3, k4, k5⟩ := HK
                    generalize (px j == px A && py j == py A) = e1 at NE1 BWX
                    generalize (px j == px B && py j == py B) = e2 at NE2 BWX
                    cases tv
                    · cases e1
                      · cases e2
                        · go_wp2_with fail
                          go_roundw
                          case rel => exact ⟨j + 1, by omega, by go_num, by rw [NX.out, BWX.out]; rfl, HBF⟩
                          case measure => simp [intOf]; omega
                        · go_wp2_with fail
                          go_roundw
                          case rel => exact ⟨j + 1, by omega, by go_num, by rw [NX.out, BWX.out]; rfl, HBF⟩
                          case measure => simp [intOf]; omega
                      · go_wp2_with fail
                        go_roundw
                        case rel => exact ⟨j + 1, by omega, by go_num, by rw [NX.out, BWX.out]; rfl, HBF⟩
                        case measure => simp [intOf]; omega
                    · go_wp2_with fail
                      go_roundw
                      case rel => exact ⟨j + 1, by omega, by go_num, by rw [NX.out, BWX.out]; rfl, HBF⟩
                      case measure => simp [intOf]; omega
                  · have d2 : decide (sqI (px B) (py B) (px j) (py j) < sqI (px A) (py A) (px B) (py B)) = false := decide_eq_false h2
                    have BWX : Hid (betwB px py A B j = false) := hid (by rw [BQ.out, decide_eq_false h2]; simp)
                    clear BQ hT
                    go_region_held3 (fun w' => w'.cell? ⟨ba, 0, none⟩ = some (.int .i64 (px A)) ∧ w'.cell? ⟨ba, 1, none⟩ = some (.int .i64 (py A)) ∧ w'.cell? ⟨bb, 0, none⟩ = some (.int .i64 (px B)) ∧ w'.cell? ⟨bb, 1, none⟩ = some (.int .i64 (py B)) ∧ w'.cell? ⟨bp, 0, none⟩ = some (.int .i64 (px j)) ∧ w'.cell? ⟨bp, 1, none⟩ = some (.int .i64 (py j))) (assumption)
                      (first | (go_at_call 23; refine (TN.out _ _ _ _ _ _ _ (by assumption)).mono ?_; rintro e w6 ⟨rfl, hb6⟩; have HB6 : Hid (Below W4.heap.size W4 w6) := hid ((Below.refl _ _).drew.trans hb6); have HK := KEEP.out w6 HB6.out; clear hb6) | (go_at_call 17; refine (SQ.out _ _ _ _ _ (by assumption)).mono ?_; rintro e w6 ⟨rfl, hb6⟩; have HB6 : Hid (Below W4.heap.size W4 w6) := hid (HB6.out.trans (hb6.mono HB6.out.size)); have HK := KEEP.out w6 HB6.out; clear hb6))
                    clear START
                    have HBF := hid (HBW.out _ HB6.out)
                    obtain ⟨k0, k1, k2, k3, k4, k5⟩ := HK
                    cases tv
                    · go_wp2_with fail
                      go_roundw
                      case rel => exact ⟨j + 1, by omega, by go_num, by rw [NX.out, BWX.out]; rfl, HBF⟩
                      case measure => simp [intOf]; omega
                    · go_wp2_with fail
                      go_roundw
                      case rel => exact ⟨j + 1, by omega, by go_num, by rw [NX.out, BWX.out]; rfl, HBF⟩
                      case measure => simp [intOf]; omega
                · have d1 : decide (sqI (px A) (py A) (px j) (py j) < sqI (px A) (py A) (px B) (py B)) = false := decide_eq_false h1
                  have BWX : Hid (betwB px py A B j = false) := hid (by rw [BQ.out, decide_eq_false h1]; simp)
                  clear BQ hT
                  refine wp_region_held_drew (S := (fun w' => w'.cell? ⟨ba, 0, none⟩ = some (.int .i64 (px A)) ∧ w'.cell? ⟨ba, 1, none⟩ = some (.int .i64 (py A)) ∧ w'.cell? ⟨bb, 0, none⟩ = some (.int .i64 (px B)) ∧ w'.cell? ⟨bb, 1, none⟩ = some (.int .i64 (py B)) ∧ w'.cell? ⟨bp, 0, none⟩ = some (.int .i64 (px j)) ∧ w'.cell? ⟨bp, 1, none⟩ = some (.int .i64 (py j)))) (by kernel_rfl) START (fun hHeld => ?_)
                  clear hHeld
                  refine wpAnyH_take (i := 0) (v := .agg #[.int .i64 (px A), .int .i64 (py A)]) rfl (by kernel_rfl) (by kernel_rfl) (by kernel_rfl) (fun _ _ _ h => h) (Or.inl ⟨by kernel_rfl, ?_⟩) (by assumption) ?_
                  · intro W hSw
                    try dsimp only at hSw
                    go_simp
                  try simp only [Act.put, List.setIfInBounds_toArray, List.set_cons_zero, List.set_cons_succ]
                  refine wpAnyH_take (i := 1) (v := .agg #[.int .i64 (px B), .int .i64 (py B)]) rfl (by kernel_rfl) (by kernel_rfl) (by kernel_rfl) (fun _ _ _ h => h) (Or.inl ⟨by kernel_rfl, ?_⟩) (by assumption) ?_
                  · intro W hSw
                    try dsimp only at hSw
                    go_simp
                  try simp only [Act.put, List.setIfInBounds_toArray, List.set_cons_zero, List.set_cons_succ]
                  refine wpAnyH_take (i := 2) (v := .agg #[.int .i64 (px j), .int .i64 (py j)]) rfl (by kernel_rfl) (by kernel_rfl) (by kernel_rfl) (fun _ _ _ h => h) (Or.inl ⟨by kernel_rfl, ?_⟩) (by assumption) ?_
                  · intro W hSw
                    try dsimp only at hSw
                    go_simp
                  try simp only [Act.put, List.setIfInBounds_toArray, List.set_cons_zero, List.set_cons_succ]
                  refine wpAnyH_ready (rs := [3]) (by kernel_rfl) (by simp) ?_
                  refine AllReadyH.cons rfl (fun K hK => ?_) AllReadyH.nil
                  go_simp
                  refine (TN.out _ _ _ _ _ _ _ B6).mono ?_
                  rintro e w6 ⟨rfl, hb6⟩
                  have HB6 : Hid (Below W4.heap.size W4 w6) := hid ((Below.refl _ _).drew.trans hb6)
                  have HK := KEEP.out w6 HB6.out
                  clear hb6
                  refine hK.out _ _ HK (fun hHeld => ?_)
                  clear hK K hHeld
                  try simp only [Act.put, List.setIfInBounds_toArray, List.set_cons_zero, List.set_cons_succ]
                  clear START
                  refine wpAnyH_take (i := 4) (v := .bool true) rfl (by kernel_rfl) (by kernel_rfl) (by kernel_rfl) (fun _ _ _ h => h) (Or.inl ⟨by kernel_rfl, ?_⟩) (by assumption) ?_
                  · intro W hSw
                    try dsimp only at hSw
                    go_simp
                  try simp only [Act.put, List.setIfInBounds_toArray, List.set_cons_zero, List.set_cons_succ]
                  refine wpAnyH_take (i := 5) (v := .bool true) rfl (by kernel_rfl) (by kernel_rfl) (by kernel_rfl) (fun _ _ _ h => h) (Or.inl ⟨by kernel_rfl, ?_⟩) (by assumption) ?_
                  · intro W hSw
                    try dsimp only at hSw
                    go_simp
                  try simp only [Act.put, List.setIfInBounds_toArray, List.set_cons_zero, List.set_cons_succ]
                  refine wpAnyH_take (i := 6) (v := .agg #[.int .i64 (px A), .int .i64 (py A)]) rfl (by kernel_rfl) (by kernel_rfl) (by kernel_rfl) (fun _ _ _ h => h) (Or.inl ⟨by kernel_rfl, ?_⟩) (by assumption) ?_
                  · intro W hSw
                    try dsimp only at hSw
                    go_simp
                  try simp only [Act.put, List.setIfInBounds_toArray, List.set_cons_zero, List.set_cons_succ]
                  refine wpAnyH_take (i := 7) (v := .agg #[.int .i64 (px j), .int .i64 (py j)]) rfl (by kernel_rfl) (by kernel_rfl) (by kernel_rfl) (fun _ _ _ h => h) (Or.inl ⟨by kernel_rfl, ?_⟩) (by assumption) ?_
                  · intro W hSw
                    try dsimp only at hSw
                    go_simp
                  try simp only [Act.put, List.setIfInBounds_toArray, List.set_cons_zero, List.set_cons_succ]
                  refine wpAnyH_take (i := 9) (v := .agg #[.int .i64 (px A), .int .i64 (py A)]) rfl (by kernel_rfl) (by kernel_rfl) (by kernel_rfl) (fun _ _ _ h => h) (Or.inl ⟨by kernel_rfl, ?_⟩) (by assumption) ?_
                  · intro W hSw
                    try dsimp only at hSw
                    go_simp
                  try simp only [Act.put, List.setIfInBounds_toArray, List.set_cons_zero, List.set_cons_succ]
                  refine wpAnyH_take (i := 10) (v := .agg #[.int .i64 (px B), .int .i64 (py B)]) rfl (by kernel_rfl) (by kernel_rfl) (by kernel_rfl) (fun _ _ _ h => h) (Or.inl ⟨by kernel_rfl, ?_⟩) (by assumption) ?_
                  · intro W hSw
                    try dsimp only at hSw
                    go_simp
                  try simp only [Act.put, List.setIfInBounds_toArray, List.set_cons_zero, List.set_cons_succ]
                  refine wpAnyH_ready (rs := [8]) (by kernel_rfl) (by simp) ?_
                  refine AllReadyH.cons rfl (fun K hK => ?_) AllReadyH.nil
                  go_simp
                  refine (SQ.out _ _ _ _ _ Bap).mono ?_
                  rintro e w6 ⟨rfl, hb6⟩
                  have HB6 : Hid (Below W4.heap.size W4 w6) := hid (HB6.out.trans (hb6.mono HB6.out.size))
                  have HK := KEEP.out w6 HB6.out
                  clear hb6
                  refine hK.out _ _ HK (fun hHeld => ?_)
                  clear hK K hHeld
                  try simp only [Act.put, List.setIfInBounds_toArray, List.set_cons_zero, List.set_cons_succ]
                  refine wpAnyH_ready (rs := [11]) (by kernel_rfl) (by simp) ?_
                  refine AllReadyH.cons rfl (fun K hK => ?_) AllReadyH.nil
                  go_simp
                  refine (SQ.out _ _ _ _ _ Bab).mono ?_
                  rintro e w6 ⟨rfl, hb6⟩
                  have HB6 : Hid (Below W4.heap.size W4 w6) := hid (HB6.out.trans (hb6.mono HB6.out.size))
                  have HK := KEEP.out w6 HB6.out
                  clear hb6
                  refine hK.out _ _ HK (fun hHeld => ?_)
                  clear hK K hHeld
                  try simp only [Act.put, List.setIfInBounds_toArray, List.set_cons_zero, List.set_cons_succ]
                  refine wpAnyH_take (i := 12) (v := .bool false) rfl (by kernel_rfl) (by kernel_rfl) (by kernel_rfl) (fun _ _ _ h => h) (Or.inl ⟨by kernel_rfl, ?_⟩) (by assumption) ?_
                  · intro W hSw
                    try dsimp only at hSw
                    go_simp
                  try simp only [Act.put, List.setIfInBounds_toArray, List.set_cons_zero, List.set_cons_succ]
                  refine wpAnyH_take (i := 13) (v := .bool false) rfl (by kernel_rfl) (by kernel_rfl) (by kernel_rfl) (fun _ _ _ h => h) (Or.inl ⟨by kernel_rfl, ?_⟩) (by assumption) ?_
                  · intro W hSw
                    try dsimp only at hSw
                    go_simp
                  try simp only [Act.put, List.setIfInBounds_toArray, List.set_cons_zero, List.set_cons_succ]
                  refine wpAnyH_take (i := 14) (v := .bool false) rfl (by kernel_rfl) (by kernel_rfl) (by kernel_rfl) (fun _ _ _ h => h) (Or.inl ⟨by kernel_rfl, ?_⟩) (by assumption) ?_
                  · intro W hSw
                    try dsimp only at hSw
                    go_simp
                  try simp only [Act.put, List.setIfInBounds_toArray, List.set_cons_zero, List.set_cons_succ]
                  refine wpAnyH_take (i := 15) (v := undef) rfl (by kernel_rfl) (by kernel_rfl) (by kernel_rfl) (fun _ _ _ h => h) (Or.inr ⟨by kernel_rfl, rfl⟩) (by assumption) ?_
                  try simp only [Act.put, List.setIfInBounds_toArray, List.set_cons_zero, List.set_cons_succ]
                  refine wpAnyH_take (i := 16) (v := undef) rfl (by kernel_rfl) (by kernel_rfl) (by kernel_rfl) (fun _ _ _ h => h) (Or.inr ⟨by kernel_rfl, rfl⟩) (by assumption) ?_
                  try simp only [Act.put, List.setIfInBounds_toArray, List.set_cons_zero, List.set_cons_succ]
                  refine wpAnyH_take (i := 17) (v := undef) rfl (by kernel_rfl) (by kernel_rfl) (by kernel_rfl) (fun _ _ _ h => h) (Or.inr ⟨by kernel_rfl, rfl⟩) (by assumption) ?_
                  try simp only [Act.put, List.setIfInBounds_toArray, List.set_cons_zero, List.set_cons_succ]
                  refine wpAnyH_take (i := 18) (v := undef) rfl (by kernel_rfl) (by kernel_rfl) (by kernel_rfl) (fun _ _ _ h => h) (Or.inr ⟨by kernel_rfl, rfl⟩) (by assumption) ?_
                  try simp only [Act.put, List.setIfInBounds_toArray, List.set_cons_zero, List.set_cons_succ]
                  refine wpAnyH_take (i := 19) (v := undef) rfl (by kernel_rfl) (by kernel_rfl) (by kernel_rfl) (fun _ _ _ h => h) (Or.inr ⟨by kernel_rfl, rfl⟩) (by assumption) ?_
                  try simp only [Act.put, List.setIfInBounds_toArray, List.set_cons_zero, List.set_cons_succ]
                  refine wpAnyH_take (i := 20) (v := undef) rfl (by kernel_rfl) (by kernel_rfl) (by kernel_rfl) (fun _ _ _ h => h) (Or.inr ⟨by kernel_rfl, rfl⟩) (by assumption) ?_
                  try simp only [Act.put, List.setIfInBounds_toArray, List.set_cons_zero, List.set_cons_succ]
                  refine wpAnyH_take (i := 21) (v := undef) rfl (by kernel_rfl) (by kernel_rfl) (by kernel_rfl) (fun _ _ _ h => h) (Or.inr ⟨by kernel_rfl, rfl⟩) (by assumption) ?_
                  try simp only [Act.put, List.setIfInBounds_toArray, List.set_cons_zero, List.set_cons_succ]
                  refine wpAnyH_take (i := 22) (v := .bool false) rfl (by kernel_rfl) (by kernel_rfl) (by kernel_rfl) (fun _ _ _ h => h) (Or.inl ⟨by kernel_rfl, ?_⟩) (by assumption) ?_
                  · intro W hSw
                    try dsimp only at hSw
                    go_simp
                  try simp only [Act.put, List.setIfInBounds_toArray, List.set_cons_zero, List.set_cons_succ]
                  refine wpAnyH_ready (rs := [23]) (by kernel_rfl) (by simp) ?_
                  refine AllReadyH.cons rfl (fun K hK => ?_) AllReadyH.nil
                  go_simp
                  refine hK.out _ _ (by assumption) (fun hHeld => ?_)
                  clear hK K hHeld
                  refine wpAnyH_done (by kernel_rfl) ?_ _
                  have HBF := hid (HBW.out _ HB6.out)
                  obtain ⟨k0, k1, k2, k3, k4, k5⟩ := HK
                  cases tv
                  · go_wp2_with fail
                    go_roundw
                    case rel => exact ⟨j + 1, by omega, by go_num, by rw [NX.out, BWX.out]; rfl, HBF⟩
                    case measure => simp [intOf]; omega
                  · go_wp2_with fail
                    go_roundw
                    case rel => exact ⟨j + 1, by omega, by go_num, by rw [NX.out, BWX.out]; rfl, HBF⟩
                    case measure => simp [intOf]; omega
              · have dT : (tw (px A) (py A) (px B) (py B) (px j) (py j) == 0) = false := by rw [beq_eq_false_iff_ne]; exact hT
                have BWX : Hid (betwB px py A B j = false) := hid (by rw [BQ.out, decide_eq_false hT]; simp)
                clear BQ hT
                refine wp_region_held_drew (S := (fun w' => w'.cell? ⟨ba, 0, none⟩ = some (.int .i64 (px A)) ∧ w'.cell? ⟨ba, 1, none⟩ = some (.int .i64 (py A)) ∧ w'.cell? ⟨bb, 0, none⟩ = some (.int .i64 (px B)) ∧ w'.cell? ⟨bb, 1, none⟩ = some (.int .i64 (py B)) ∧ w'.cell? ⟨bp, 0, none⟩ = some (.int .i64 (px j)) ∧ w'.cell? ⟨bp, 1, none⟩ = some (.int .i64 (py j)))) (by kernel_rfl) START (fun hHeld => ?_)
                clear hHeld
                refine wpAnyH_take (i := 0) (v := .agg #[.int .i64 (px A), .int .i64 (py A)]) rfl (by kernel_rfl) (by kernel_rfl) (by kernel_rfl) (fun _ _ _ h => h) (Or.inl ⟨by kernel_rfl, ?_⟩) (by assumption) ?_
                · intro W hSw
                  try dsimp only at hSw
                  go_simp
                try simp only [Act.put, List.setIfInBounds_toArray, List.set_cons_zero, List.set_cons_succ]
                refine wpAnyH_take (i := 1) (v := .agg #[.int .i64 (px B), .int .i64 (py B)]) rfl (by kernel_rfl) (by kernel_rfl) (by kernel_rfl) (fun _ _ _ h => h) (Or.inl ⟨by kernel_rfl, ?_⟩) (by assumption) ?_
                · intro W hSw
                  try dsimp only at hSw
                  go_simp
                try simp only [Act.put, List.setIfInBounds_toArray, List.set_cons_zero, List.set_cons_succ]
                refine wpAnyH_take (i := 2) (v := .agg #[.int .i64 (px j), .int .i64 (py j)]) rfl (by kernel_rfl) (by kernel_rfl) (by kernel_rfl) (fun _ _ _ h => h) (Or.inl ⟨by kernel_rfl, ?_⟩) (by assumption) ?_
                · intro W hSw
                  try dsimp only at hSw
                  go_simp
                try simp only [Act.put, List.setIfInBounds_toArray, List.set_cons_zero, List.set_cons_succ]
                refine wpAnyH_ready (rs := [3]) (by kernel_rfl) (by simp) ?_
                refine AllReadyH.cons rfl (fun K hK => ?_) AllReadyH.nil
                go_simp
                refine (TN.out _ _ _ _ _ _ _ B6).mono ?_
                rintro e w6 ⟨rfl, hb6⟩
                have HB6 : Hid (Below W4.heap.size W4 w6) := hid ((Below.refl _ _).drew.trans hb6)
                have HK := KEEP.out w6 HB6.out
                clear hb6
                refine hK.out _ _ HK (fun hHeld => ?_)
                clear hK K hHeld
                try simp only [Act.put, List.setIfInBounds_toArray, List.set_cons_zero, List.set_cons_succ]
                clear START
                refine wpAnyH_take (i := 4) (v := .bool false) rfl (by kernel_rfl) (by kernel_rfl) (by kernel_rfl) (fun _ _ _ h => h) (Or.inl ⟨by kernel_rfl, ?_⟩) (by assumption) ?_
                · intro W hSw
                  try dsimp only at hSw
                  go_simp
                try simp only [Act.put, List.setIfInBounds_toArray, List.set_cons_zero, List.set_cons_succ]
                refine wpAnyH_take (i := 5) (v := .bool false) rfl (by kernel_rfl) (by kernel_rfl) (by kernel_rfl) (fun _ _ _ h => h) (Or.inl ⟨by kernel_rfl, ?_⟩) (by assumption) ?_
                · intro W hSw
                  try dsimp only at hSw
                  go_simp
                try simp only [Act.put, List.setIfInBounds_toArray, List.set_cons_zero, List.set_cons_succ]
                refine wpAnyH_take (i := 6) (v := undef) rfl (by kernel_rfl) (by kernel_rfl) (by kernel_rfl) (fun _ _ _ h => h) (Or.inr ⟨by kernel_rfl, rfl⟩) (by assumption) ?_
                try simp only [Act.put, List.setIfInBounds_toArray, List.set_cons_zero, List.set_cons_succ]
                refine wpAnyH_take (i := 7) (v := undef) rfl (by kernel_rfl) (by kernel_rfl) (by kernel_rfl) (fun _ _ _ h => h) (Or.inr ⟨by kernel_rfl, rfl⟩) (by assumption) ?_
                try simp only [Act.put, List.setIfInBounds_toArray, List.set_cons_zero, List.set_cons_succ]
                refine wpAnyH_take (i := 8) (v := undef) rfl (by kernel_rfl) (by kernel_rfl) (by kernel_rfl) (fun _ _ _ h => h) (Or.inr ⟨by kernel_rfl, rfl⟩) (by assumption) ?_
                try simp only [Act.put, List.setIfInBounds_toArray, List.set_cons_zero, List.set_cons_succ]
                refine wpAnyH_take (i := 9) (v := undef) rfl (by kernel_rfl) (by kernel_rfl) (by kernel_rfl) (fun _ _ _ h => h) (Or.inr ⟨by kernel_rfl, rfl⟩) (by assumption) ?_
                try simp only [Act.put, List.setIfInBounds_toArray, List.set_cons_zero, List.set_cons_succ]
                refine wpAnyH_take (i := 10) (v := undef) rfl (by kernel_rfl) (by kernel_rfl) (by kernel_rfl) (fun _ _ _ h => h) (Or.inr ⟨by kernel_rfl, rfl⟩) (by assumption) ?_
                try simp only [Act.put, List.setIfInBounds_toArray, List.set_cons_zero, List.set_cons_succ]
                refine wpAnyH_take (i := 11) (v := undef) rfl (by kernel_rfl) (by kernel_rfl) (by kernel_rfl) (fun _ _ _ h => h) (Or.inr ⟨by kernel_rfl, rfl⟩) (by assumption) ?_
                try simp only [Act.put, List.setIfInBounds_toArray, List.set_cons_zero, List.set_cons_succ]
                refine wpAnyH_take (i := 12) (v := undef) rfl (by kernel_rfl) (by kernel_rfl) (by kernel_rfl) (fun _ _ _ h => h) (Or.inr ⟨by kernel_rfl, rfl⟩) (by assumption) ?_
                try simp only [Act.put, List.setIfInBounds_toArray, List.set_cons_zero, List.set_cons_succ]
                refine wpAnyH_take (i := 13) (v := .bool false) rfl (by kernel_rfl) (by kernel_rfl) (by kernel_rfl) (fun _ _ _ h => h) (Or.inl ⟨by kernel_rfl, ?_⟩) (by assumption) ?_
                · intro W hSw
                  try dsimp only at hSw
                  go_simp
                try simp only [Act.put, List.setIfInBounds_toArray, List.set_cons_zero, List.set_cons_succ]
                refine wpAnyH_take (i := 14) (v := .bool false) rfl (by kernel_rfl) (by kernel_rfl) (by kernel_rfl) (fun _ _ _ h => h) (Or.inl ⟨by kernel_rfl, ?_⟩) (by assumption) ?_
                · intro W hSw
                  try dsimp only at hSw
                  go_simp
                try simp only [Act.put, List.setIfInBounds_toArray, List.set_cons_zero, List.set_cons_succ]
                refine wpAnyH_take (i := 15) (v := undef) rfl (by kernel_rfl) (by kernel_rfl) (by kernel_rfl) (fun _ _ _ h => h) (Or.inr ⟨by kernel_rfl, rfl⟩) (by assumption) ?_
                try simp only [Act.put, List.setIfInBounds_toArray, List.set_cons_zero, List.set_cons_succ]
                refine wpAnyH_take (i := 16) (v := undef) rfl (by kernel_rfl) (by kernel_rfl) (by kernel_rfl) (fun _ _ _ h => h) (Or.inr ⟨by kernel_rfl, rfl⟩) (by assumption) ?_
                try simp only [Act.put, List.setIfInBounds_toArray, List.set_cons_zero, List.set_cons_succ]
                refine wpAnyH_take (i := 17) (v := undef) rfl (by kernel_rfl) (by kernel_rfl) (by kernel_rfl) (fun _ _ _ h => h) (Or.inr ⟨by kernel_rfl, rfl⟩) (by assumption) ?_
                try simp only [Act.put, List.setIfInBounds_toArray, List.set_cons_zero, List.set_cons_succ]
                refine wpAnyH_take (i := 18) (v := undef) rfl (by kernel_rfl) (by kernel_rfl) (by kernel_rfl) (fun _ _ _ h => h) (Or.inr ⟨by kernel_rfl, rfl⟩) (by assumption) ?_
                try simp only [Act.put, List.setIfInBounds_toArray, List.set_cons_zero, List.set_cons_succ]
                refine wpAnyH_take (i := 19) (v := undef) rfl (by kernel_rfl) (by kernel_rfl) (by kernel_rfl) (fun _ _ _ h => h) (Or.inr ⟨by kernel_rfl, rfl⟩) (by assumption) ?_
                try simp only [Act.put, List.setIfInBounds_toArray, List.set_cons_zero, List.set_cons_succ]
                refine wpAnyH_take (i := 20) (v := undef) rfl (by kernel_rfl) (by kernel_rfl) (by kernel_rfl) (fun _ _ _ h => h) (Or.inr ⟨by kernel_rfl, rfl⟩) (by assumption) ?_
                try simp only [Act.put, List.setIfInBounds_toArray, List.set_cons_zero, List.set_cons_succ]
                refine wpAnyH_take (i := 21) (v := undef) rfl (by kernel_rfl) (by kernel_rfl) (by kernel_rfl) (fun _ _ _ h => h) (Or.inr ⟨by kernel_rfl, rfl⟩) (by assumption) ?_
                try simp only [Act.put, List.setIfInBounds_toArray, List.set_cons_zero, List.set_cons_succ]
                refine wpAnyH_take (i := 22) (v := .bool false) rfl (by kernel_rfl) (by kernel_rfl) (by kernel_rfl) (fun _ _ _ h => h) (Or.inl ⟨by kernel_rfl, ?_⟩) (by assumption) ?_
                · intro W hSw
                  try dsimp only at hSw
                  go_simp
                try simp only [Act.put, List.setIfInBounds_toArray, List.set_cons_zero, List.set_cons_succ]
                refine wpAnyH_ready (rs := [23]) (by kernel_rfl) (by simp) ?_
                refine AllReadyH.cons rfl (fun K hK => ?_) AllReadyH.nil
                go_simp
                refine hK.out _ _ (by assumption) (fun hHeld => ?_)
                clear hK K hHeld
                refine wpAnyH_done (by kernel_rfl) ?_ _
                have HBF := hid (HBW.out _ HB6.out)
                obtain ⟨k0, k1, k2, k3, k4, k5⟩ := HK
                cases tv
                · go_wp2_with fail
                  go_roundw
                  case rel => exact ⟨j + 1, by omega, by go_num, by rw [NX.out, BWX.out]; rfl, HBF⟩
                  case measure => simp [intOf]; omega
                · go_wp2_with fail
                  go_roundw
                  case rel => exact ⟨j + 1, by omega, by go_num, by rw [NX.out, BWX.out]; rfl, HBF⟩
                  case measure => simp [intOf]; omega
            · have hjj : j = n := by omega
              subst hjj
              rw [← TX.out]
              obtain ⟨tz, htz⟩ : ∃ tz, tz = thX px py j ys (i + 1) := ⟨_, rfl⟩
              have HTZ := hid htz
              rw [← htz]
              clear htz TX hA hB hAB a' b'
              have BD := hid (HB3.out.trans (HB.out.mono HB3.out.size)).drew
              have C9 := hid (SDi.out wr.drew BD.out)
              have START := HC3.out wr.drew HB.out.drew
              have q1 : (0 : Int) ≤ (i : Int) := by omega
              go_wp2_with fail
              go_region_held3 (fun w' => w'.cell? ⟨gy, oy + i * 2, none⟩ = some (.int .i64 (A : Nat)) ∧ w'.cell? ⟨gy, oy + i * 2 + 1, none⟩ = some (.int .i64 (B : Nat))) (assumption)
                ((go_at_call 18; refine C9.out.mono ?_; rintro e w6 ⟨⟨b, rfl, hbt⟩, hb6⟩; have HBT := hid hbt; have HK := HC3.out w6 (HB.out.drew.trans (hb6.mono HB.out.size)); have HB6 := hid (BD.out.trans (hb6.mono BD.out.size)); clear hb6 hbt))
              clear START HK
              have hr : r = 0 ∨ r = 6 := by
                rcases HU.out with ⟨h, _⟩ | ⟨h, _⟩
                · exact .inl h
                · exact .inr h
              rcases hr with hr | hr
              · have hbt := HBT.out hr
                subst hbt hr
                go_wp2_with fail
                go_roundw
                case rel => exact ⟨i + 1, by omega, by go_num, by rw [HTZ.out], HB6⟩
                case measure => simp [intOf]; omega
              · subst hr
                go_wp2_with fail
                go_roundw
                case rel => exact ⟨i + 1, by omega, by go_num, by rw [HTZ.out], HB6⟩
                case measure => simp [intOf]; omega
        · have hkl : i = lk := by omega
          subst hkl
          rcases HU.out with ⟨rfl, hth, g2, cp2, d, M, hs, rfl, _⟩ | ⟨rfl, hth, rfl⟩
          · rw [HLK.out, hth]
            go_wp2_with fail
            go_ret
            exact ⟨rfl, HB5.out.trans (HB.out.mono HB5.out.size)⟩
          · rw [HLK.out, hth]
            go_wp2_with fail
            go_ret
            exact ⟨rfl, HB5.out.trans (HB.out.mono HB5.out.size)⟩
end Go.Proofs.YtdbebbbceeopaaaGreat
