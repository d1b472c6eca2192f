/- Contracts of package pack and of hatstandref1, over this seat's program. -/
import Derived.Test.YtcacahokdnpboaaRows
import Derived.WalkKit
import Derived.ProofKit
import Derived.OpenShut
import Derived.Handy
import Derived.Lib.Hide
namespace Go.Proofs.Ytcacahokdnpboaa.pk
open Go.ChangeShapes Go.WideShapes Go.ChangeAt Go.RowKit
set_option linter.unusedVariables false

theorem as_tag (t : Int) (w : World) : (Instr.typeAssert (.iface 68 (.int .u32 t)) 20 68 true).run Try.prog w = .ok (.tuple #[.int .u32 t, .bool true]) w := by kernel_rfl
theorem as_tag_no (t : Int) (w : World) : (Instr.typeAssert (.iface 71 (.int .u32 t)) 20 68 true).run Try.prog w = .ok (.tuple #[.int .u32 0, .bool false]) w := by kernel_rfl
theorem as_index (t : Int) (w : World) : (Instr.typeAssert (.iface 71 (.int .u32 t)) 20 71 true).run Try.prog w = .ok (.tuple #[.int .u32 t, .bool true]) w := by kernel_rfl
theorem as_index_no (t : Int) (w : World) : (Instr.typeAssert (.iface 68 (.int .u32 t)) 20 71 true).run Try.prog w = .ok (.tuple #[.int .u32 0, .bool false]) w := by kernel_rfl

theorem below_cells {W w1 : World} (hb : Below W.heap.size W w1) : (∀ b o, b < W.heap.size → w1.cell? ⟨b, o, none⟩ = W.cell? ⟨b, o, none⟩) ∧ (∀ b o, b < W.heap.size → w1.frozen? ⟨b, o, none⟩ = W.frozen? ⟨b, o, none⟩) :=
  ⟨fun b o h => hb.cell (p := ⟨b, o, none⟩) h, fun b o h => hb.frozen (p := ⟨b, o, none⟩) h⟩
theorem below_trans {a b c : World} (h : Below a.heap.size a b) (k : Below b.heap.size b c) : Below a.heap.size a c := h.trans (k.mono h.size)

theorem placed_tag (t : Int) (h0 : 0 ≤ t) (h1 : t ≤ 4294967295) (w : World) :
    Calls Try.prog 43 #[.iface 68 (.int .u32 t)] w fun e w' => e = .returned (.int .u64 (t * 4294967296)) ∧ w = w' := by
  have hx := as_tag t
  go_enter Try.func43, Try.ntmps43
  go_wp2
  go_ret
  exact ⟨rfl, rfl⟩
theorem placed_index (t : Int) (h0 : 0 ≤ t) (h1 : t ≤ 4294967295) (w : World) :
    Calls Try.prog 43 #[.iface 71 (.int .u32 t)] w fun e w' => e = .returned (.int .u64 t) ∧ w = w' := by
  have hx := as_tag_no t
  have hy := as_index t
  go_enter Try.func43, Try.ntmps43
  go_wp2
  go_ret
  exact ⟨rfl, rfl⟩
theorem parts_any (v : Int) (h0 : 0 ≤ v) (h1 : v ≤ 18446744073709551615) (w : World) :
    Calls Try.prog 42 #[.int .u64 v] w fun e w' => e = .returned (.agg #[.iface 71 (.int .u32 (v % 4294967296)), .iface 68 (.int .u32 (v / 4294967296))]) ∧ Below w.heap.size w w' := by
  go_enter Try.func42, Try.ntmps42
  go_wp2
  exact bodyPost_ret (v := .agg #[.iface 71 (.int .u32 (v % 4294967296)), .iface 68 (.int .u32 (v / 4294967296))]) (by simp [results, Try.results42, go_sem]) rfl ⟨rfl, by go_grown⟩
theorem ix0 (x y : Value) (w : World) : (Instr.index 66 (.agg #[x, y]) (.int .i64 0)).run Try.prog w = .ok x w := by kernel_rfl
theorem ix1 (x y : Value) (w : World) : (Instr.index 66 (.agg #[x, y]) (.int .i64 1)).run Try.prog w = .ok y w := by kernel_rfl
theorem index_any (v : Int) (h0 : 0 ≤ v) (h1 : v ≤ 18446744073709551615) (w : World) :
    Calls Try.prog 41 #[.int .u64 v] w fun e w' => e = .returned (.int .u32 (v % 4294967296)) ∧ Below w.heap.size w w' := by
  have hx := as_index (v % 4294967296)
  have hi := ix0
  go_enter Try.func41, Try.ntmps41
  go_wp2_with fail
  refine (parts_any _ h0 h1 _).mono ?_
  rintro e w1 ⟨rfl, hb⟩
  go_wp2
  refine wp_loop_rounds 1 ?_
  rw [rounds_succ]; go_wp2
  go_ret
  exact ⟨rfl, hb⟩
theorem tag_any (v : Int) (h0 : 0 ≤ v) (h1 : v ≤ 18446744073709551615) (w : World) :
    Calls Try.prog 33 #[.int .u64 v] w fun e w' => e = .returned (.int .u32 (v / 4294967296)) ∧ Below w.heap.size w w' := by
  have hx := as_tag_no (v % 4294967296)
  have hy := as_tag (v / 4294967296)
  have hi := ix0
  have hj := ix1
  go_enter Try.func33, Try.ntmps33
  go_wp2_with fail
  refine (parts_any _ h0 h1 _).mono ?_
  rintro e w1 ⟨rfl, hb⟩
  go_wp2
  refine wp_loop_rounds 2 ?_
  rw [rounds_succ]; go_wp2
  rw [rounds_succ]; go_wp2
  go_ret
  exact ⟨rfl, hb⟩
theorem or_parts (i t : Int) (h0 : 0 ≤ i) (h1 : i ≤ 4294967295) (h2 : 0 ≤ t) (h3 : t ≤ 4294967295) : bits .or .u64 i (t * 4294967296) = t * 4294967296 + i := by
  obtain ⟨n, rfl⟩ := Int.eq_ofNat_of_zero_le h0
  obtain ⟨m, rfl⟩ := Int.eq_ofNat_of_zero_le h2
  have e : (m : Int) * 4294967296 = ((m * 4294967296 : Nat) : Int) := by omega
  rw [e, u64_or_nat n (m * 4294967296) (by omega) (by omega), Nat.or_comm, nat_join 32 (m * 4294967296) n (by omega) (by omega)]
  omega
theorem word_any (i t : Int) (h0 : 0 ≤ i) (h1 : i ≤ 4294967295) (h2 : 0 ≤ t) (h3 : t ≤ 4294967295) (w : World) :
    Calls Try.prog 34 #[.int .u32 i, .int .u32 t] w fun e w' => e = .returned (.int .u64 (t * 4294967296 + i)) ∧ w = w' := by
  have ho := or_parts i t h0 h1 h2 h3
  go_enter Try.func34, Try.ntmps34
  go_wp2_with fail
  refine (placed_index _ h0 h1 _).mono ?_
  rintro e w1 ⟨rfl, rfl⟩
  go_wp2_with fail
  refine (placed_tag _ h2 h3 _).mono ?_
  rintro e w1 ⟨rfl, rfl⟩
  go_wp2_with fail
  go_ret
  exact ⟨rfl, rfl⟩
def nx (v i : Int) : Int := (v / 4294967296 + 1) % 4294967296 * 4294967296 + i
def ah (a b : Int) : Int := (b / 4294967296 - a / 4294967296) % 4294967296
theorem nx_bd (v i : Int) (h2 : 0 ≤ i) (h3 : i ≤ 4294967295) : 0 ≤ nx v i ∧ nx v i ≤ 18446744073709551615 := by unfold nx; omega
theorem ah_bd (a b : Int) : 0 ≤ ah a b ∧ ah a b ≤ 4294967295 := by unfold ah; omega
end Go.Proofs.Ytcacahokdnpboaa.pk
