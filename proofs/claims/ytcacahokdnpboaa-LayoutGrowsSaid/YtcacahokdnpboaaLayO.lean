/- A config that is handed in, opened; over this seat's program. -/
import Derived.Test.YtcacahokdnpboaaLayB
import Derived.Lib.SmallJoins
namespace Go.Proofs.Ytcacahokdnpboaa.ly
open Go.ChangeShapes Go.WideShapes Go.ChangeAt Go.RowKit Go.Joins frame lift sep own join
set_option linter.unusedVariables false
def CfIn (c : Cf) : Prop := (I64 c.nodes ∧ I64 c.slots ∧ I64 c.holders) ∧ TagOk c
theorem bd_u32' {n : Int} (h : (Lit.int .u32 n).wf = true) : 0 ≤ n ∧ n ≤ 4294967295 := bd_u32 h
theorem open_cfg {H : Type} {enc : TypeId × Value → H} {r : Reach} {b0 : Nat} {W : World} {v : Value} {d : DataW H} {p : List MemPlace} (hv : Value.okWide Try.prog W r b0 24 v) (h : DataW.Trod enc Try.prog W 0 (fun _ => true) true 24 v d p) :
    ∃ c : Cf, v = .agg #[.int .i64 c.nodes, .int .i64 c.slots, .int .i64 c.holders, .int .u32 c.tag] ∧ CfIn c := by
  obtain ⟨v0, v1, v2, v3, y0, y1, y2, y3, n, rfl, _, _, h0, h1, h2, h3⟩ := open_agg4 Try.underlying24 (by kernel_rfl) (by kernel_rfl) hv h
  obtain ⟨n0, e0, _, g0⟩ := DataW.trod_int Try.underlying3 h0
  obtain ⟨n1, e1, _, g1⟩ := DataW.trod_int Try.underlying3 h1
  obtain ⟨n2, e2, _, g2⟩ := DataW.trod_int Try.underlying3 h2
  obtain ⟨n3, e3, _, g3⟩ := DataW.trod_int Try.underlying22 h3
  simp at e0 e1 e2 e3
  subst e0 e1 e2 e3
  exact ⟨⟨n0, n1, n2, n3⟩, rfl, ⟨bd_i64 g0, bd_i64 g1, bd_i64 g2⟩, bd_u32 g3⟩
theorem next_p (n s h t i : Int) (h0 : 0 ≤ i) (h1 : i ≤ 4294967295) (w : World) : Calls Try.prog 16 #[.agg #[.int .i64 n, .int .i64 s, .int .i64 h, .int .u32 t], .int .u32 i] w fun e w' => e = .returned (.int .i64 (nextP ⟨n, s, h, t⟩ i)) ∧ Below w.heap.size w w' := next_any ⟨n, s, h, t⟩ i h0 h1 w
theorem value_p (n s h t i : Int) (h0 : 0 ≤ i) (h1 : i ≤ 4294967295) (w : World) : Calls Try.prog 18 #[.agg #[.int .i64 n, .int .i64 s, .int .i64 h, .int .u32 t], .int .u32 i] w fun e w' => e = .returned (.int .i64 (valueP ⟨n, s, h, t⟩ i)) ∧ Below w.heap.size w w' := value_any ⟨n, s, h, t⟩ i h0 h1 w
theorem slot_p (n s h t k : Int) (w : World) : Calls Try.prog 20 #[.agg #[.int .i64 n, .int .i64 s, .int .i64 h, .int .u32 t], .int .i64 k] w fun e w' => e = .returned (.int .i64 (slotP ⟨n, s, h, t⟩ k)) ∧ Below w.heap.size w w' := slot_any ⟨n, s, h, t⟩ k w
theorem holder_p (n s h t k : Int) (w : World) : Calls Try.prog 22 #[.agg #[.int .i64 n, .int .i64 s, .int .i64 h, .int .u32 t], .int .i64 k] w fun e w' => e = .returned (.int .i64 (holderP ⟨n, s, h, t⟩ k)) ∧ Below w.heap.size w w' := holder_any ⟨n, s, h, t⟩ k w
theorem cells_p (n s h t : Int) (w : World) : Calls Try.prog 24 #[.agg #[.int .i64 n, .int .i64 s, .int .i64 h, .int .u32 t]] w fun e w' => e = .returned (.int .i64 (cellsN ⟨n, s, h, t⟩)) ∧ Below w.heap.size w w' := cells_any ⟨n, s, h, t⟩ w
/-- A config's cells. -/
def CfAt (w : World) (b : Nat) (n s h t : Int) : Prop := w.cell? ⟨b, 0, none⟩ = some (.int .i64 n) ∧ w.cell? ⟨b, 1, none⟩ = some (.int .i64 s) ∧ w.cell? ⟨b, 2, none⟩ = some (.int .i64 h) ∧ w.cell? ⟨b, 3, none⟩ = some (.int .u32 t)
theorem cfAt {F : Nat → Prop} {W w : World} {b : Nat} {n s h t : Int} {e : TypeId} {L : List Thing} (hh : Hold F W L w) (hm : blk b (.cells #[.int .i64 n, .int .i64 s, .int .i64 h, .int .u32 t] e (0, 0)) ∈ L) : CfAt w b n s h t :=
  ⟨hh.cell hm 0, hh.cell hm 1, hh.cell hm 2, hh.cell hm 3⟩
end Go.Proofs.Ytcacahokdnpboaa.ly
