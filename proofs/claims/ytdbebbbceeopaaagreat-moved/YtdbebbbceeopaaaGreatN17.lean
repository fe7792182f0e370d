import Derived.Test.YtdbebbbceeopaaaGreatN15
import Derived.Maps.OwnSet
import Derived.Maps.RangeWalk
import Derived.DeepKeys5
set_option linter.unusedSimpArgs false
namespace Go.Proofs.YtdbebbbceeopaaaGreat
open Go.RowKit Go.Maps

theorem Tryz.laid : laidOutB Tryz.prog = true := by kernel_rfl
theorem Tryz.row99 : (110 : TypeId) < Tryz.prog.types.size := of_decide_eq_true (by kernel_rfl)
theorem Tryz.wide99 : (match Tryz.prog.underlying 110 with | some (.array _ _) | some (.struct _) => true | _ => false) = true := by rw [Tryz.underlying110]
set_option maxRecDepth 100000 in
theorem Tryz.law99 : Go.WideMaps.KeyLaw Tryz.prog 110 := deep_law_laid Tryz.laid (m := 2) (by omega) Tryz.row99 (by kernel_rfl) Tryz.wide99
theorem Tryz.keyed99 : Keyed Tryz.prog 110 := Keyed.of_law Tryz.law99
theorem Tryz.cells99 : Tryz.prog.cellsOf 110 = 2 := by kernel_rfl

/-- A side, as a key. -/
def sdV (u v : Nat) : Value := .agg #[.int .i64 u, .int .i64 v]

theorem Tryz.keyType99 : Tryz.prog.keyType 110 = true := by kernel_rfl

theorem sd_formed (u v : Nat) : (sdV u v).formed Tryz.prog 110 = true := by simp [sdV, Value.formed, Tryz.underlying110, Tryz.cells99]

theorem lits3 (d : Nat) (x : Nat) (hx : x < 1000) : Tryz.prog.keyLits (d + 1) 3 [.int .i64 x] = some [.int .i64 x] := by
  unfold Program.keyLits
  rw [Tryz.underlying3]
  have : (Lit.int .i64 (x : Int)).wf = true := WalkArith.wf_i64 (by omega)
  simp [this]

theorem lits_struct {P : Program} {d : Nat} {t : TypeId} {fs : Array Field} (cs : List Value) (h : P.underlying t = some (.struct fs)) :
    P.keyLits (d + 1) t cs = if cs.length = P.cellsOf t ∧ fs.all (·.name != "_") = true then (fs.toList.mapM fun f => P.keyLits d f.type ((cs.drop f.offset).take (P.cellsOf f.type))).map List.flatten else none := by
  rw [Program.keyLits.eq_def]
  simp only [h]

theorem Tryz.cells3 : Tryz.prog.cellsOf 3 = 1 := by kernel_rfl

theorem sd_key (u v : Nat) (hu : u < 1000) (hv : v < 1000) : keyOf Tryz.prog 110 (sdV u v) = some (.string (keyBytes [.int .i64 u, .int .i64 v])) := by
  unfold keyOf
  rw [Tryz.underlying110]
  simp only [Tryz.keyType99, sd_formed, Bool.and_self, if_true]
  have e : Tryz.prog.types.size + 1 = 213 + 1 + 1 := by
    have : Tryz.prog.types.size = 214 := by kernel_rfl
    rw [this]
  rw [e]
  have k : Tryz.prog.keyLits (213 + 1 + 1) 110 (sdV u v).cells.toList = some [.int .i64 u, .int .i64 v] := by
    rw [lits_struct _ Tryz.underlying110]
    simp only [sdV, Value.cells, Tryz.cells99, Tryz.cells3, List.length_cons, List.length_nil]
    rw [if_pos ⟨trivial, by kernel_rfl⟩]
    simp [lits3 213 u hu, lits3 213 v hv, Tryz.cells3]
  rw [k]
  rfl

def klL (u v : Nat) : Lit := .string (keyBytes [.int .i64 u, .int .i64 v])

theorem kl_inj {u v u' v' : Nat} (hu : u < 1000) (hv : v < 1000) (hu' : u' < 1000) (hv' : v' < 1000) (h : klL u v = klL u' v') : u = u' ∧ v = v' := by
  have h1 := sd_key u v hu hv
  have h2 := sd_key u' v' hu' hv'
  have h2' : keyOf Tryz.prog 110 (sdV u' v') = some (klL u v) := by rw [h]; exact h2
  have := Tryz.keyed99.inj h1 h2'
  unfold sdV at this
  simp at this
  omega

theorem kl_key (u v : Nat) (hu : u < 1000) (hv : v < 1000) : WideAt.IsKeyLit (klL u v) := Tryz.keyed99.key (sd_key u v hu hv)

/-- What a map of sides reads as. -/
structure Reads (D : DataW Unit) (M : Nat → Nat → Option Nat) : Prop where
  is : IsMap D
  has : ∀ u v, u < 1000 → v < 1000 → Maps.has D (klL u v) = (M u v).isSome
  val : ∀ u v c, u < 1000 → v < 1000 → M u v = some c → D.atKey (klL u v) (.lit (.int .i64 0)) = .lit (.int .i64 c)
  onl : ∀ kl, Maps.has D kl = true → ∃ u v, u < 1000 ∧ v < 1000 ∧ kl = klL u v

def putM (M : Nat → Nat → Option Nat) (a b c : Nat) : Nat → Nat → Option Nat := fun u v => if u = a ∧ v = b then some c else M u v
def delM (M : Nat → Nat → Option Nat) (a b : Nat) : Nat → Nat → Option Nat := fun u v => if u = a ∧ v = b then none else M u v

theorem Reads.put {D : DataW Unit} {M : Nat → Nat → Option Nat} (h : Reads D M) {a b : Nat} (c : Nat) (ha : a < 1000) (hb : b < 1000) : Reads (D.put (klL a b) (.lit (.int .i64 c))) (putM M a b c) := by
  refine ⟨h.is.put _ _, fun u v hu hv => ?_, fun u v c' hu hv e => ?_, fun kl hk => ?_⟩
  · unfold putM
    by_cases g : u = a ∧ v = b
    · rw [if_pos g, g.1, g.2]
      exact has_put_same h.is (kl_key a b ha hb) _
    · rw [if_neg g, has_put_other (fun e => g (kl_inj hu hv ha hb e)) _]
      exact h.has u v hu hv
  · unfold putM at e
    by_cases g : u = a ∧ v = b
    · rw [if_pos g] at e
      cases e
      rw [g.1, g.2]
      exact atKey_put_same h.is (kl_key a b ha hb) _ _
    · rw [if_neg g] at e
      rw [atKey_put_other (fun e => g (kl_inj hu hv ha hb e)) _ _]
      exact h.val u v c' hu hv e
  · by_cases g : kl = klL a b
    · exact ⟨a, b, ha, hb, g⟩
    · rw [has_put_other g] at hk
      exact h.onl kl hk

theorem Reads.del {D : DataW Unit} {M : Nat → Nat → Option Nat} (h : Reads D M) {a b : Nat} (ha : a < 1000) (hb : b < 1000) : Reads (D.del (klL a b)) (delM M a b) := by
  refine ⟨h.is.del _, fun u v hu hv => ?_, fun u v c' hu hv e => ?_, fun kl hk => ?_⟩
  · unfold delM
    by_cases g : u = a ∧ v = b
    · rw [if_pos g, g.1, g.2]
      exact has_del_same
    · rw [if_neg g, has_del_other (fun e => g (kl_inj hu hv ha hb e))]
      exact h.has u v hu hv
  · unfold delM at e
    by_cases g : u = a ∧ v = b
    · rw [if_pos g] at e; cases e
    · rw [if_neg g] at e
      rw [atKey_del_other (fun e => g (kl_inj hu hv ha hb e)) _]
      exact h.val u v c' hu hv e
  · by_cases g : kl = klL a b
    · exact ⟨a, b, ha, hb, g⟩
    · rw [has_del_other g] at hk
      exact h.onl kl hk

/-- Block b is the map of a mesh. -/
def MapAt (w : World) (b N : Nat) (M : Nat → Nat → Option Nat) : Prop := ∃ D : DataW Unit, w.ownsMap Tryz.prog 110 (plainElem Tryz.prog 3) b N D ∧ Reads D M

theorem put3 {M : Nat → Nat → Option Nat} {a b c : Nat} (_h1 : a ≠ b) (_h2 : a ≠ c) (_h3 : b ≠ c) : putM (putM (putM M a b c) b c a) c a b = Geo.addT M a b c := by
  funext u v
  unfold putM Geo.addT
  by_cases k1 : u = a ∧ v = b
  · rw [if_neg (by omega), if_neg (by omega), if_pos k1, if_pos k1]
  · by_cases k2 : u = b ∧ v = c
    · rw [if_neg (by omega), if_pos k2, if_neg k1, if_pos k2]
    · by_cases k3 : u = c ∧ v = a
      · rw [if_pos k3, if_neg k1, if_neg k2, if_pos k3]
      · rw [if_neg k3, if_neg k2, if_neg k1, if_neg k1, if_neg k2, if_neg k3]

theorem MapAt.put {w : World} {bm N : Nat} {M : Nat → Nat → Option Nat} (h : MapAt w bm N M) (hN : N ≤ 1000000) {a b c : Nat} (ha : a < 1000) (hb : b < 1000) (hc : c < 1000) :
    ∃ w', (Instr.mapUpdate 102 (.map (some bm)) (.agg #[.int .i64 a, .int .i64 b]) (.int .i64 c)).run Tryz.prog w = .ok () w' ∧ MapAt w' bm (N + 1) (putM M a b c) ∧ w.grownBy w' (some bm) := by
  obtain ⟨D, hown, hR⟩ := h
  have hv : plainElem (H := Unit) Tryz.prog 3 (.int .i64 (c : Int)) = some (.lit (.int .i64 c), []) := plainElem_int Tryz.underlying3 (WalkArith.wf_i64 (by omega))
  obtain ⟨w', r, o, g⟩ := hown.update Tryz.keyed99 Tryz.underlying102 (by unfold maxLen; omega) (sd_key a b ha hb) hv
  exact ⟨w', r, ⟨_, o, hR.put c ha hb⟩, g⟩

theorem grown_cell {w w' : World} {bm : Nat} (h : w.grownBy w' (some bm)) {a : Addr} {v : Value} (hne : a.block ≠ bm) (hc : w.cell? a = some v) : w'.cell? a = some v := by
  have hb := h.block a.block (World.block_lt_of_cell? w _ hc) (fun e => hne (Option.some.inj e))
  exact (World.cell?_of_block (w := w) hb).trans hc

set_option maxRecDepth 100000 in
set_option maxHeartbeats 4000000 in
theorem add_any (mb bm N a b c : Nat) (M : Nat → Nat → Option Nat) (w : World) (hmb : w.cell? ⟨mb, 1, none⟩ = some (.map (some bm))) (hne : mb ≠ bm) (hM : MapAt w bm N M) (hN : N ≤ 100000) (ha : a < 1000) (hb : b < 1000) (hc : c < 1000) :
    Calls Tryz.prog 104 #[.pointer (some ⟨mb, 0, none⟩), .int .i64 a, .int .i64 b, .int .i64 c] w fun e w' => e = .returned (.tuple #[]) ∧ MapAt w' bm (N + 3) (putM (putM (putM M a b c) b c a) c a b) ∧ w.grownBy w' (some bm) := by
  obtain ⟨w1, r1, m1, g1⟩ := hM.put (by omega) ha hb hc
  obtain ⟨w2, r2, m2, g2⟩ := m1.put (by omega) hb hc ha
  obtain ⟨w3, r3, m3, g3⟩ := m2.put (by omega) hc ha hb
  have h1 := grown_cell g1 (a := ⟨mb, 1, none⟩) hne hmb
  have h2 := grown_cell g2 (a := ⟨mb, 1, none⟩) hne h1
  have R : Hid (MapAt w3 bm (N + 3) (putM (putM (putM M a b c) b c a) c a b)) := hid m3
  have G : Hid (w.grownBy w3 (some bm)) := hid ((g1.andThen g2 (fun j e => .inr e)).andThen g3 (fun j e => .inr e))
  clear hM m1 m2 m3 g1 g2 g3
  go_enter Tryz.func104, Tryz.ntmps104
  go_wp2_with fail
  go_end0
  exact ⟨rfl, R.out, G.out⟩
end Go.Proofs.YtdbebbbceeopaaaGreat
