/- Package hatstandref6, on: the stack's values; lists compared; over this seat's program. -/
import Derived.Test.YtcacahokdnpboaaLayC
namespace Go.Proofs.Ytcacahokdnpboaa.ly
open Go.ChangeShapes Go.WideShapes Go.ChangeAt Go.RowKit frame lift sep own join
set_option linter.unusedVariables false
theorem below_drewN {B : Nat} {u w : World} (h : Below B u w) (n : Nat) : Below B u (w.drewN n) := h.trans ⟨rfl, rfl, rfl, Nat.le_refl _, fun _ _ => rfl⟩
/-- What a Stack tells. -/
def StackV (w : World) (o : Option (List Int)) (e : Ending) (w' : World) : Prop := ∃ t, e = .returned (.tuple #[t, .bool o.isSome]) ∧ Ints w' .u64 t (o.getD []) ∧ Below w.heap.size w w'
theorem stack_bad {c : Cf} {ws : List Int} (h : ¬ Ok c ∨ (ws.length : Int) ≠ cellsN c) : stackL c ws = none := by
  unfold stackL
  rw [chain_bad h]
  rfl
theorem chain_mem {c : Cf} {ws : List Int} {x : Int} {l : List Int} (h : chainL c ws x = some l) : ∀ i ∈ l, 1 ≤ i ∧ i ≤ c.nodes := by
  intro i hi
  have h' := h
  unfold chainL at h'
  split at h'
  · rename_i hc
    have := (chain_iff hc.1 hc.2 l).1 h
    obtain ⟨_, _, _, hb⟩ := this.of_mem hi
    exact hb
  · cases h'
theorem chain_len {c : Cf} {ws : List Int} {x : Int} {l : List Int} (h : chainL c ws x = some l) : l.length ≤ 64 := by
  have h' := h
  unfold chainL at h'
  split at h'
  · exact ((walk_iff 64 _ l).1 h').2
  · cases h'
theorem same32_any {w : World} {va vb : Value} {l : List Int} (ha : Ints w .u32 va l) (hb : Ints w .u32 vb l) (hl : l.length ≤ 1000000) :
    Calls Try.prog 31 #[va, vb] w fun e w' => e = .returned (.bool true) ∧ Below w.heap.size w w' := by
  obtain ⟨aa, ca, rfl, hfa⟩ := form ha
  obtain ⟨ab, cb, rfl, hfb⟩ := form hb
  have HFA := Lib.hid hfa; have HFB := Lib.hid hfb
  clear ha hb hfa hfb
  go_enter Try.func31, Try.ntmps31
  go_wp2_with fail
  go_loopw [5] (fun i wr => ∃ k : Nat, k ≤ l.length ∧ i = .int .i64 k ∧ Hid (Below w.heap.size w wr)) (fun i _ => l.length - (intOf i).toNat)
  case atStart => exact ⟨0, Nat.zero_le _, rfl, Below.refl _ _⟩
  case round =>
    obtain ⟨k, hk, rfl, HB⟩ := hrel
    by_cases hlt : k < l.length
    · obtain ⟨h1, h2, ba, oa, rfl, hba, hca⟩ := HFA.out (by omega)
      obtain ⟨h3, h4, bb, ob, rfl, hbb, hcb⟩ := HFB.out (by omega)
      have e1 := (HB.out.cell (p := ⟨ba, oa + k, none⟩) hba).trans (hca k hlt)
      have e2 := (HB.out.cell (p := ⟨bb, ob + k, none⟩) hbb).trans (hcb k hlt)
      have hi1 : (0 : Int) ≤ (k : Int) := by omega
      have hi2 : (k : Int) < (l.length : Int) := by omega
      clear hca hcb
      go_wp2_with fail
      go_quiet (fail)
      go_wp2_with fail
      go_roundw
      case rel => exact ⟨k + 1, by omega, by go_num, below_drewN HB.out _⟩
      case measure => simp [intOf]; omega
    · go_wp2_with fail
      go_ret
      exact ⟨rfl, HB.out⟩
theorem words_any {w : World} {va vb : Value} {l : List Int} (ha : Ints w .u64 va l) (hb : Ints w .u64 vb l) (hl : l.length ≤ 1000000) :
    Calls Try.prog 26 #[va, vb] w fun e w' => e = .returned (.bool true) ∧ Below w.heap.size w w' := by
  obtain ⟨aa, ca, rfl, hfa⟩ := form ha
  obtain ⟨ab, cb, rfl, hfb⟩ := form hb
  have HFA := Lib.hid hfa; have HFB := Lib.hid hfb
  clear ha hb hfa hfb
  go_enter Try.func26, Try.ntmps26
  go_wp2_with fail
  go_loopw [5] (fun i wr => ∃ k : Nat, k ≤ l.length ∧ i = .int .i64 k ∧ Hid (Below w.heap.size w wr)) (fun i _ => l.length - (intOf i).toNat)
  case atStart => exact ⟨0, Nat.zero_le _, rfl, Below.refl _ _⟩
  case round =>
    obtain ⟨k, hk, rfl, HB⟩ := hrel
    by_cases hlt : k < l.length
    · obtain ⟨h1, h2, ba, oa, rfl, hba, hca⟩ := HFA.out (by omega)
      obtain ⟨h3, h4, bb, ob, rfl, hbb, hcb⟩ := HFB.out (by omega)
      have e1 := (HB.out.cell (p := ⟨ba, oa + k, none⟩) hba).trans (hca k hlt)
      have e2 := (HB.out.cell (p := ⟨bb, ob + k, none⟩) hbb).trans (hcb k hlt)
      have hi1 : (0 : Int) ≤ (k : Int) := by omega
      have hi2 : (k : Int) < (l.length : Int) := by omega
      clear hca hcb
      go_wp2_with fail
      go_quiet (fail)
      go_wp2_with fail
      go_roundw
      case rel => exact ⟨k + 1, by omega, by go_num, below_drewN HB.out _⟩
      case measure => simp [intOf]; omega
    · go_wp2_with fail
      go_ret
      exact ⟨rfl, HB.out⟩
end Go.Proofs.Ytcacahokdnpboaa.ly
