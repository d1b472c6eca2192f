/- The laws' parameters that are entries, or rows of rows of numbers, opened; over this seat's program. -/
import Derived.Test.YtolampkhohahlaaDoorGlyphO
import Derived.Test.YtolampkhohahlaaDoorOpens
namespace Go.Proofs.YtolampkhohahlaaDoor.g3
open Go.ChangeShapes Go.WideShapes Go.ChangeAt Go.RowKit frame lift gl own
set_option linter.unusedVariables false
def EntsOk (l : List Ent) : Prop := ∀ e ∈ l, ((-2147483648 ≤ e.op ∧ e.op ≤ 2147483647) ∧ e.args.length ≤ 17592186044416) ∧ ∀ n ∈ e.args, U64 n
theorem bytes64 : Tryd.prog.bytesOf 47 = 8 := by kernel_rfl
def entKinds : List FR := [.int .i32, .row .u64 47, .bool, .int .i64]
theorem open_ents {H : Type} {enc : TypeId × Value → H} {W : World} {v : Value} {d : DataW H} {p : List MemPlace} (hv : ∃ a len cap, v = .slice a len cap) (h : DataW.Trod enc Tryd.prog W 0 (fun _ => true) true 22 v d p) (hsz : ∀ n ∈ d.weights Tryd.prog 22, n ≤ reachBytes) :
    ∃ l, GLoose W v l ∧ EntsOk l := by
  obtain ⟨n, R, hS, hR⟩ := open_rows_structs (fks := entKinds) Tryd.underlying22 Tryd.underlying26 (by kernel_rfl) (by kernel_rfl) rfl (by decide) (fun j f fk hj hk => by
    match j, hj, hk with
    | 0, hj, hk => simp at hj; simp [entKinds] at hk; subst hj; subst hk; exact Tryd.underlying21
    | 1, hj, hk => simp at hj; simp [entKinds] at hk; subst hj; subst hk; exact ⟨Tryd.underlying24, Tryd.underlying47, by kernel_rfl⟩
    | 2, hj, hk => simp at hj; simp [entKinds] at hk; subst hj; subst hk; exact Tryd.underlying4
    | 3, hj, hk => simp at hj; simp [entKinds] at hk; subst hj; subst hk; exact Tryd.underlying3
    | j + 4, hj, hk => simp [entKinds] at hk) hv h
  have key : ∀ i, i < n → ∃ e : Ent, R i 0 = .int .i32 e.op ∧ ((-2147483648 ≤ e.op ∧ e.op ≤ 2147483647) ∧ e.args.length ≤ 17592186044416) ∧ Ints W .u64 (R i 1) e.args ∧ (∀ n ∈ e.args, U64 n) ∧ R i 2 = .bool e.ok ∧ ∃ z, R i 3 = .int .i64 z := fun i hi => by
    obtain ⟨a, ha, hw⟩ := hR i hi 0 _ rfl
    obtain ⟨l, hl, hf, hw8⟩ := hR i hi 1 _ rfl
    obtain ⟨b, hb⟩ := hR i hi 2 _ rfl
    obtain ⟨z, hz, _⟩ := hR i hi 3 _ rfl
    refine ⟨⟨a, l, b, 0⟩, ha, ?_, hl, fun n hn => ?_, hb, z, hz⟩
    · refine ⟨by simpa [Lit.wf, IntKind.min, IntKind.max, IntKind.signed, IntKind.bits] using hw, ?_⟩
      rcases hw8 with rfl | ⟨m, hm, hw8⟩
      · simp
      · have := hsz m hm
        rw [bytes64] at hw8
        simp only [reachBytes] at this
        show l.length ≤ _
        omega
    · have := hf n hn
      simpa [U64, Lit.wf, IntKind.min, IntKind.max, IntKind.signed, IntKind.bits] using this
  have key2 : ∃ L : Nat → Ent, ∀ i, i < n → R i 0 = .int .i32 (L i).op ∧ ((-2147483648 ≤ (L i).op ∧ (L i).op ≤ 2147483647) ∧ (L i).args.length ≤ 17592186044416) ∧ Ints W .u64 (R i 1) (L i).args ∧ (∀ n ∈ (L i).args, U64 n) ∧ R i 2 = .bool (L i).ok ∧ ∃ z, R i 3 = .int .i64 z := by
    have : ∀ i, ∃ e : Ent, i < n → R i 0 = .int .i32 e.op ∧ ((-2147483648 ≤ e.op ∧ e.op ≤ 2147483647) ∧ e.args.length ≤ 17592186044416) ∧ Ints W .u64 (R i 1) e.args ∧ (∀ n ∈ e.args, U64 n) ∧ R i 2 = .bool e.ok ∧ ∃ z, R i 3 = .int .i64 z := fun i => by
      by_cases hh : i < n
      · obtain ⟨e, he⟩ := key i hh
        exact ⟨e, fun _ => he⟩
      · exact ⟨⟨0, [], false, 0⟩, fun h1 => (hh h1).elim⟩
    exact ⟨fun i => (this i).choose, fun i hi => (this i).choose_spec hi⟩
  obtain ⟨L, hL⟩ := key2
  have hl : ((List.range n).map L).length = n := by simp
  refine ⟨(List.range n).map L, ?_, fun e he => ?_⟩
  · rcases hS with ⟨rfl, a, cap, rfl⟩ | ⟨h0, b, off, cap, rfl, h1, h2, h3, h4⟩
    · exact .inl ⟨rfl, a, cap, rfl⟩
    · refine .inr ⟨by omega, b, off, cap, by rw [hl], by omega, h2, h3, fun i hi => ?_⟩
      have hin : i < n := by omega
      have e : ((List.range n).map L)[i] = L i := by simp
      rw [e]
      obtain ⟨k0, _, k1, _, k2, z, k3⟩ := hL i hin
      have c (j : Nat) (hj : j < 4) : W.cell? ⟨b, off + i * 4 + j, none⟩ = some (R i j) := by
        rw [Nat.add_assoc]
        exact h4 i hin j hj
      refine ⟨R i 1, ?_, c 1 (by decide), ?_, ⟨z, ?_⟩, k1⟩
      · have := c 0 (by decide); rw [k0] at this; exact this
      · have := c 2 (by decide); rw [k2] at this; exact this
      · have := c 3 (by decide); rw [k3] at this; exact this
  · obtain ⟨i, hi, rfl⟩ := List.mem_map.1 he
    obtain ⟨_, k, _, k', _⟩ := hL i (List.mem_range.1 hi)
    exact ⟨k, k'⟩
end Go.Proofs.YtolampkhohahlaaDoor.g3
