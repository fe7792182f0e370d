import Derived.Test.YtdbebbbceeopaaaGreatD
import Derived.WalkSmall
namespace Go.Proofs.YtdbebbbceeopaaaGreat
open Go.RowKit
open Go.Sort (grow Holds putRow SWO PermIn SortedIn alloc_eq_grow cell?_grow cell?_putRow_other)
open Flt (Is)

def encN (i : Nat) : Value := .int .i64 (i : Int)

theorem is_zero : Is 0 0 := Flt.Is.ofInt (n := 0) (by decide) (by decide)

theorem gtr_zero {r : Nat} {v : Int} (h : Is r v) : (FloatKind.f64.format.order r 0 == some Ordering.gt) = decide (0 < v) := by
  rw [h.order is_zero]
  by_cases h1 : 0 < v
  · simp [Int.compare_eq_gt.2 h1, h1]
  · by_cases h2 : v < 0
    · simp [Int.compare_eq_lt.2 h2, h1]
    · have : v = 0 := by omega
      subst this; simp

theorem neq_zero {r : Nat} {v : Int} (h : Is r v) : (FloatKind.f64.format.order r 0 != some Ordering.eq) = decide (v ≠ 0) := by
  rw [h.order is_zero]
  by_cases h1 : 0 < v
  · have h3 : v ≠ 0 := by omega
    simp [Int.compare_eq_gt.2 h1, h3]
  · by_cases h2 : v < 0
    · have h3 : v ≠ 0 := by omega
      simp [Int.compare_eq_lt.2 h2, h3]
    · have : v = 0 := by omega
      subst this; simp

theorem drewN_drewN (w : World) (a b : Nat) : (w.drewN a).drewN b = w.drewN (a + b) := by
  unfold World.drewN; simp [Nat.add_assoc]

set_option maxHeartbeats 1000000 in
theorem turnsLeft_any (px py : Nat → Int) (n pb po cap g k wcap b l x : Nat) (w : World) (hp : Plc w pb po n px py) (hb : b < n) (hl : l < n) (hx : x < n) (hk : k ≤ 40)
    (h1 : w.cell? ⟨g, k, none⟩ = some (.int .i64 b)) (h2 : w.cell? ⟨g, k + 1, none⟩ = some (.int .i64 l)) :
    Calls Tryz.prog 95 #[.slice (some ⟨pb, po, none⟩) n cap, .slice (some ⟨g, 0, none⟩) (k + 2 : Nat) wcap, .int .i64 x] w fun e w' => e = .returned (.bool (decide (0 < T px py b l x))) ∧ ∃ q, w' = w.drewN q := by
  obtain ⟨rb, ib, cb, ab, ab'⟩ := hp.cell b hb
  obtain ⟨rl, il, cl, al, al'⟩ := hp.cell l hl
  obtain ⟨rx, ix, cx, ax, ax'⟩ := hp.cell x hx
  obtain ⟨bb, bb'⟩ := hp.bd b hb
  obtain ⟨bl, bl'⟩ := hp.bd l hl
  obtain ⟨bx, bx'⟩ := hp.bd x hx
  obtain ⟨r, hr, hc⟩ := turn_any rb ib rl il rx ix _ _ _ _ _ _ ab ab' al al' ax ax' bb bb' bl bl' bx bx'
  have hg := gtr_zero hr
  rw [show tw (px b) (py b) (px l) (py l) (px x) (py x) = T px py b l x from rfl] at hg
  generalize decide (0 < T px py b l x) = res at *
  have HC : Hid (∀ w, _) := hc
  have hb' : (b : Int) < n := by omega
  have hl' : (l : Int) < n := by omega
  have hx' : (x : Int) < n := by omega
  clear hc hr ab ab' al al' ax ax' bb bb' bl bl' bx bx' hp
  go_enter Tryz.func95, Tryz.ntmps95
  go_wp2
  go_quiet (fail)
  go_wp2
  have cb' : (w.drewN nq).cell? ⟨pb, po + b, none⟩ = some (.complex .f64 rb ib) := cb
  have cl' : (w.drewN nq).cell? ⟨pb, po + l, none⟩ = some (.complex .f64 rl il) := cl
  have cx' : (w.drewN nq).cell? ⟨pb, po + x, none⟩ = some (.complex .f64 rx ix) := cx
  obtain ⟨wq, hwq⟩ : ∃ wq, wq = w.drewN nq := ⟨_, rfl⟩
  rw [← hwq] at cb' cl' cx' ⊢
  have HW : Hid (wq = w.drewN nq) := hwq
  clear hwq cb cl cx h1 h2
  go_quiet ((go_at_call 68; exact Calls.quiet_of_same (HC.out _)))
  go_wp2
  go_ret
  exact ⟨rfl, _, by rw [HW.out]; exact drewN_drewN _ _ _⟩
def lenOf : Value → Nat
  | .slice _ n _ => n
  | _ => 0

theorem ownsRow_shape {w : World} {base : Nat} {v : Value} {n : Nat} {xs : List Value} (h : w.ownsRow base 3 1 v n xs) (hn : 0 < n) :
    ∃ g cap, v = .slice (some ⟨g, 0, none⟩) n cap ∧ base ≤ g ∧ g < w.heap.size ∧ n ≤ cap := by
  rcases h.2 with ⟨_, h'⟩ | ⟨g', cap', cur, h', hb, hg, hc, _⟩
  · omega
  · exact ⟨g', cap', h', hb, (Array.getElem?_eq_some_iff.1 hg).1, hc⟩

theorem owns_len {w : World} {base : Nat} {v : Value} {n : Nat} {xs : List Value} (h : w.ownsRow base 3 1 v n xs) : ∃ a c, v = .slice a n c := by
  rcases h.2 with ⟨rfl, rfl⟩ | ⟨g', cap', cur, h', _⟩
  · exact ⟨_, _, rfl⟩
  · exact ⟨_, _, h'⟩

theorem owns_drewN {w : World} {base : Nat} {v : Value} {n : Nat} {xs : List Value} (h : w.ownsRow base 3 1 v n xs) (q : Nat) : (w.drewN q).ownsRow base 3 1 v n xs := h

theorem chain_step {t : Nat → Nat → Nat → Int} {os : List Nat} {k x : Nat} {w w2 w3 : World} {st s : List Nat} {v v' : Value} (hkl : k < os.length) (hx : x = os[k]) (hst : st = stk t (os.take k)) (hpp : popS t x s = popS t x st) (hpop : popS t x s = s)
    (ho : w2.ownsRow w.heap.size 3 1 v s.length (s.reverse.map encN)) (hb : Below w.heap.size w w2) {o : Obj} (hown' : w3.ownsRow w.heap.size 3 1 v' (s.length + 1) (s.reverse.map encN ++ [.int .i64 (x : Nat)])) (hgrow : (w2.alloc o).grownBy w3 v.ownBlock) :
    w3.ownsRow w.heap.size 3 1 v' (stk t (os.take (k + 1))).length ((stk t (os.take (k + 1))).reverse.map encN) ∧ Below w.heap.size w w3 := by
  have e : stk t (os.take (k + 1)) = x :: s := by
    rw [stk_take t os k hkl, ← hx, ← hst, ← hpp, hpop]
  rw [e]
  refine ⟨by simpa [encN] using hown', ?_⟩
  refine (hb.alloc hb.size o).grown hgrow (by have := hb.size; simp; omega) ?_
  intro j hj
  rcases ho.2 with ⟨rfl, _⟩ | ⟨g', cap', cur, rfl, hbg, _⟩
  · cases hj
  · cases hj; exact hbg

set_option maxRecDepth 100000 in
set_option maxHeartbeats 2000000 in
theorem leftTurns_any (px py : Nat → Int) (n pb po cap ob ocap : Nat) (os : List Nat) (w : World) (hp : Plc w pb po n px py) (hol : os.length ≤ 40) (hos : ∀ y ∈ os, y < n) (hob : ob < w.heap.size)
    (hoc : ∀ j, (hj : j < os.length) → w.cell? ⟨ob, j, none⟩ = some (.int .i64 (os[j] : Nat))) :
    Calls Tryz.prog 62 #[.slice (some ⟨pb, po, none⟩) n cap, .slice (some ⟨ob, 0, none⟩) os.length ocap] w fun e w' =>
      ∃ v, e = .returned v ∧ Below w.heap.size w w' ∧ w'.ownsRow w.heap.size 3 1 v (stk (T px py) os).length ((stk (T px py) os).reverse.map encN) := by
  obtain ⟨i0, hi, hz0, hz1, hz2⟩ := info_parts Tryz.info3
  obtain ⟨len, hlen⟩ : ∃ len, len = os.length := ⟨_, rfl⟩
  have HL : Hid (len = os.length) := hlen
  rw [← hlen]
  clear hlen
  go_enter Tryz.func62, Tryz.ntmps62
  go_wp2
  go_loopw [5, 10] (fun v i wr => ∃ k : Nat, k ≤ len ∧ i = .int .i64 k ∧ wr.ownsRow w.heap.size 3 1 v (stk (T px py) (os.take k)).length ((stk (T px py) (os.take k)).reverse.map encN) ∧ Below w.heap.size w wr)
    (fun _ i _ => len - (intOf i).toNat)
  case atStart => exact ⟨0, Nat.zero_le _, rfl, World.ownsRow_nil _ _ _ _, Below.refl _ _⟩
  case round =>
    obtain ⟨k, hk, rfl, ho, hb⟩ := hrel
    by_cases hlt : k < len
    · have hkl : k < os.length := by have := HL.out; omega
      obtain ⟨x, hx⟩ : ∃ x, x = os[k] := ⟨_, rfl⟩
      have hxn : x < n := by rw [hx]; exact hos _ (List.getElem_mem _)
      have hcx : wr.cell? ⟨ob, k, none⟩ = some (.int .i64 (x : Nat)) := by rw [hb.cell (by exact hob), hx]; exact hoc k hkl
      have hlt' : (k : Int) < len := by omega
      have HX : Hid (x = os[k]) := hx
      clear hx
      obtain ⟨st, hst⟩ : ∃ st, st = stk (T px py) (os.take k) := ⟨_, rfl⟩
      rw [← hst] at ho
      have HST : Hid (st = stk (T px py) (os.take k)) := hst
      have hstl : st.length ≤ k := by rw [hst]; exact stk_len _ _ _ (by omega)
      clear hst
      obtain ⟨a5, c5, hv5⟩ := owns_len ho
      subst hv5
      have HO := hid ho
      have HB := hid hb
      clear ho hb
      go_wp2
      go_loopw [5] (fun v w2 => ∃ s : List Nat, popS (T px py) x s = popS (T px py) x st ∧ s.length ≤ k ∧ (∀ y ∈ s, y < n) ∧ w2.ownsRow w.heap.size 3 1 v s.length (s.reverse.map encN) ∧ Below w.heap.size w w2) (fun v _ => lenOf v)
      case atStart =>
        refine ⟨st, rfl, hstl, ?_, HO.out, HB.out⟩
        intro y hy
        rw [HST.out] at hy
        exact hos y (stk_mem _ _ _ (by omega) y hy)
      case round =>
        obtain ⟨s, hpp, hsl, hsn, ho, hb⟩ := hrel
        have HP := hid hpp
        clear HO HB hpp
        have HHB := hid hb
        clear hb
        rcases s with _ | ⟨l, _ | ⟨b, r⟩⟩
        ·
          obtain ⟨a6, c6, hv6⟩ := owns_len ho
          subst hv6
          have HO : Hid (wr.ownsRow w.heap.size 3 1 (.slice a6 0 c6) 0 []) := ho
          have HB : Hid (Below w.heap.size w wr) := HHB.out
          clear ho HHB hsn hos hoc hp hcx
          simp only [List.length_nil]
          go_wp2_with (at_builtin; go_must (refine wpList_append_own _ rfl _ _ 25 rfl w.heap.size 3 i0 (.int .i64 0) 1 8 Tryz.underlying25 hi hz0 hz1 hz2 rfl (by decide) _ _ _ rfl (HO.out.alloc _) ⟨wr.heap.size, 0, none⟩ 1 1 [.int .i64 (x : Nat)] rfl rfl ?c1 ?c2 ?c3 ?c4 ?c5 ?_))
          case c1 =>
            intro j u hj
            match j, hj with
            | 0, hj => simp at hj; subst hj; simp [Addr.add]
          case c2 => intro u hu; simp at hu; subst hu; rfl
          case c3 => unfold maxLen; simp
          case c4 => simp
          case c5 => have := HB.out.size; simp; omega
          intro v' w3 hown' hgrow _
          have R := chain_step (os := os) (k := k) hkl HX.out HST.out HP.out rfl HO.out HB.out hown' hgrow
          clear hown' hgrow
          have HR := hid R
          clear R
          go_wp2
          go_roundw
          case rel => exact ⟨k + 1, by omega, by go_num, HR.out.1, HR.out.2⟩
          case measure => simp [intOf]; omega
        ·
          obtain ⟨a6, c6, hv6⟩ := owns_len ho
          subst hv6
          have HO : Hid (wr.ownsRow w.heap.size 3 1 (.slice a6 1 c6) 1 [encN l]) := ho
          have HB : Hid (Below w.heap.size w wr) := HHB.out
          clear ho HHB hsn hos hoc hp hcx
          simp only [List.length_cons, List.length_nil]
          go_wp2_with (at_builtin; go_must (refine wpList_append_own _ rfl _ _ 25 rfl w.heap.size 3 i0 (.int .i64 0) 1 8 Tryz.underlying25 hi hz0 hz1 hz2 rfl (by decide) _ _ _ rfl (HO.out.alloc _) ⟨wr.heap.size, 0, none⟩ 1 1 [.int .i64 (x : Nat)] rfl rfl ?c1 ?c2 ?c3 ?c4 ?c5 ?_))
          case c1 =>
            intro j u hj
            match j, hj with
            | 0, hj => simp at hj; subst hj; simp [Addr.add]
          case c2 => intro u hu; simp at hu; subst hu; rfl
          case c3 => unfold maxLen; simp
          case c4 => simp
          case c5 => have := HB.out.size; simp; omega
          intro v' w3 hown' hgrow _
          have R := chain_step (os := os) (k := k) hkl HX.out HST.out HP.out rfl HO.out HB.out hown' hgrow
          clear hown' hgrow
          have HR := hid R
          clear R
          go_wp2
          go_roundw
          case rel => exact ⟨k + 1, by omega, by go_num, HR.out.1, HR.out.2⟩
          case measure => simp [intOf]; omega
        ·
          obtain ⟨g, cp, hv6, hgb, hglt, hcp⟩ := ownsRow_shape ho (by simp)
          subst hv6
          have hc1 : wr.cell? ⟨g, r.length, none⟩ = some (.int .i64 (b : Nat)) := by
            rw [ho.cellAt _ (by simp; omega)]; simp [encN]
          have hc2 : wr.cell? ⟨g, r.length + 1, none⟩ = some (.int .i64 (l : Nat)) := by
            rw [ho.cellAt _ (by simp)]; simp [encN]
          have hcon := turnsLeft_any px py n pb po cap g r.length cp b l x wr (hp.below HHB.out hp.lt) (hsn _ (by simp)) (hsn _ (by simp)) hxn (by simp at hsl; omega) hc1 hc2
          have hpopE : popS (T px py) x (l :: b :: r) = if 0 < T px py b l x then l :: b :: r else popS (T px py) x (b :: r) := rfl
          by_cases hT : 0 < T px py b l x
          · have HPOP : Hid (popS (T px py) x (l :: b :: r) = l :: b :: r) := by
              show _ = _
              rw [hpopE, if_pos hT]
            rw [decide_eq_true hT] at hcon
            have HO : Hid (wr.ownsRow w.heap.size 3 1 (.slice (some ⟨g, 0, none⟩) (r.length + 2) cp) (r.length + 2) ((l :: b :: r).reverse.map encN)) := ho
            have HB : Hid (Below w.heap.size w wr) := HHB.out
            have hrl : r.length + 2 ≤ k := hsl
            clear hpopE ho HHB hsn hos hoc hp hcx hc1 hc2 hT hsl
            have HC := hid hcon
            clear hcon
            simp only [List.length_cons]
            have hge : decide ((2 : Int) ≤ ((r.length + 2 : Nat) : Int)) = true := by simp; omega
            go_wp2_with fail
            refine HC.out.mono ?_
            rintro e w' ⟨rfl, q, rfl⟩
            have HO' : Hid ((wr.drewN q).ownsRow w.heap.size 3 1 (.slice (some ⟨g, 0, none⟩) (r.length + 2) cp) (r.length + 2) ((l :: b :: r).reverse.map encN)) := HO.out
            have HB' : Hid (Below w.heap.size w (wr.drewN q)) := below_drewN HB.out q
            clear HO HB HC
            generalize wr.drewN q = wr' at *
            go_wp2_with (at_builtin; go_must (refine wpList_append_own _ rfl _ _ 25 rfl w.heap.size 3 i0 (.int .i64 0) 1 8 Tryz.underlying25 hi hz0 hz1 hz2 rfl (by decide) _ _ _ rfl (HO'.out.alloc _) ⟨wr'.heap.size, 0, none⟩ 1 1 [.int .i64 (x : Nat)] rfl rfl ?c1 ?c2 ?c3 ?c4 ?c5 ?_))
            case c1 =>
              intro j u hj
              match j, hj with
              | 0, hj => simp at hj; subst hj; simp [Addr.add]
            case c2 => intro u hu; simp at hu; subst hu; rfl
            case c3 => unfold maxLen; omega
            case c4 => omega
            case c5 => have := HB'.out.size; simp; omega
            intro v' w3 hown' hgrow _
            have hown2 : w3.ownsRow w.heap.size 3 1 v' ((l :: b :: r).length + 1) (List.map encN (l :: b :: r).reverse ++ [Value.int .i64 (x : Nat)]) := by simpa using hown'
            have R := chain_step (os := os) (k := k) hkl HX.out HST.out HP.out HPOP.out HO'.out HB'.out hown2 hgrow
            clear hown' hown2 hgrow
            have HR := hid R
            clear R
            go_wp2
            go_roundw
            case rel => exact ⟨k + 1, by omega, by go_num, HR.out.1, HR.out.2⟩
            case measure => simp [intOf]; omega
          · have HPOP : Hid (popS (T px py) x (l :: b :: r) = popS (T px py) x (b :: r)) := by
              show _ = _
              rw [hpopE, if_neg hT]
            rw [decide_eq_false hT] at hcon
            have hcpb : r.length + 2 ≤ cp := hcp
            have HO : Hid (wr.ownsRow w.heap.size 3 1 (.slice (some ⟨g, 0, none⟩) (r.length + 1) cp) (r.length + 1) ((b :: r).reverse.map encN)) := by
              have h := ho
              rw [List.reverse_cons, List.map_append] at h
              exact ownsRow_pop (by simp) h
            have HB : Hid (Below w.heap.size w wr) := HHB.out
            have HSN : Hid (∀ y ∈ b :: r, y < n) := fun y hy => hsn y (List.mem_cons_of_mem _ hy)
            have hrl : r.length + 2 ≤ k := hsl
            clear hpopE ho HHB hsn hos hoc hp hcx hc1 hc2 hT hsl hcp
            have HC := hid hcon
            clear hcon
            simp only [List.length_cons]
            have hge : decide ((2 : Int) ≤ ((r.length + 2 : Nat) : Int)) = true := by simp; omega
            go_wp2_with fail
            refine HC.out.mono ?_
            rintro e w' ⟨rfl, q, rfl⟩
            go_wp2
            go_roundw
            case rel => exact ⟨b :: r, HPOP.out.symm.trans HP.out, by simp; omega, HSN.out, HO.out, below_drewN HB.out q⟩
            case measure => simp [lenOf]
    · have hkl : k = len := by omega
      subst hkl
      have HO : Hid (wr.ownsRow w.heap.size 3 1 u5 (stk (T px py) os).length ((stk (T px py) os).reverse.map encN)) := by
        have h := ho
        rw [HL.out, List.take_length] at h
        exact h
      have HB : Hid (Below w.heap.size w wr) := hb
      clear ho hb
      go_wp2
      go_ret
      exact ⟨_, rfl, HB.out, HO.out⟩
end Go.Proofs.YtdbebbbceeopaaaGreat
