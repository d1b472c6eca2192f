/- Rows of the call's own as things of the frame: made by a callee, stored into; a slice's tail. Nothing here speaks of the program. -/
import Derived.Test.YtcacahokdnpboaaHold
import Derived.Test.YtcacahokdnpboaaJoin
namespace Go.Proofs.Ytcacahokdnpboaa.sep
open Go.ChangeShapes Go.WideShapes Go.ChangeAt Go.RowKit frame lift own
set_option linter.unusedVariables false
section
variable {F0 : Nat → Prop} {W w w' : World} {L : List Thing}
/-- Whole numbers that a callee made anew. -/
theorem Hold.made {e : TypeId} {k : IntKind} {t : Value} {l : List Int} (h : Hold F0 W L w) (hb : Below w.heap.size w w') (ho : Own w' w.heap.size e k t l) : Hold F0 W (row e 1 t l.length (l.map (Value.int k)) :: L) w' :=
  h.new (F := fun g => t.ownBlock = some g) hb ⟨fun g hg => (World.ownsRow.lt ho g hg).2, (ho.start (Nat.zero_le _) : Own w' 0 e k t l), fun g hg => hg⟩ (fun g hg => (World.ownsRow.lt ho g hg).1)
/-- A cell of a row is written. -/
theorem Hold.rowStore {e : TypeId} {n g cap : Nat} {xs : List Value} (h : Hold F0 W (row e 1 (.slice (some ⟨g, 0, none⟩) n cap) n xs :: L) w) (j : Nat) (u : Value) : Hold F0 W (row e 1 (.slice (some ⟨g, 0, none⟩) n cap) n (xs.set j u) :: L) (w.setCell ⟨g, j, none⟩ u) :=
  h.step1 fun F ⟨h1, h2⟩ => by
    have hn : n * 1 = xs.length := h2.1.1.symm
    exact ⟨(Chg.refl _ _).setCell (.inl (h2.2 g rfl)) u, F, Apart.one ⟨fun k hk => by simpa [World.setCell] using h1 k hk, (h2.1.stored j u).1, h2.2⟩, fun k hk => .inl hk⟩
/-- What a row is, to be read and written. -/
theorem Hold.rowAt {e : TypeId} {n : Nat} {v : Value} {xs : List Value} (h : Hold F0 W (row e 1 v n xs :: L) w) (hn : 0 < n) :
    ∃ g cap, v = .slice (some ⟨g, 0, none⟩) n cap ∧ n ≤ cap ∧ cap ≤ maxLen ∧ (∀ j, j < n → w.cell? ⟨g, j, none⟩ = xs[j]?) ∧ (∀ j, w.frozen? ⟨g, j, none⟩ = false) ∧ (∀ b o, blk b o ∈ L → g ≠ b) ∧ (F0 = (fun _ => False) → W.heap.size ≤ g) := by
  obtain ⟨hc, F, ⟨F1, F2, h1, h2, h3, h4⟩, hF⟩ := h
  obtain ⟨g, cap, rfl, hg, hgl, hc1, hc2, hce, hfr⟩ := h3.2.at_ hn
  refine ⟨g, cap, rfl, hc1, hc2, fun j hj => hce j (by omega), hfr, fun b o hm e => ?_, fun e => ?_⟩
  · obtain ⟨G, hG, hh⟩ := h4.get _ hm
    subst e
    exact h2 g hg (hG g ((hh.1 g).2 rfl))
  · have := hF g ((h1 g).2 (.inl hg))
    rcases this with h | h
    · rw [e] at h
      exact h.elim
    · exact h.1
end
/-- All but the first one. -/
theorem ints_tail {w : World} {k : IntKind} {g off n cap : Nat} {x : Int} {l : List Int} (h : Ints w k (.slice (some ⟨g, off, none⟩) n cap) (x :: l)) {q : Option Addr} (hq : 0 < l.length → q = some ⟨g, off + 1, none⟩) : Ints w k (.slice q l.length (cap - 1)) l := by
  rcases h with ⟨h, _⟩ | ⟨h0, b, o, c, hv, hc, hm, hb, hx⟩
  · cases h
  · simp only [Value.slice.injEq, Option.some.injEq, Addr.mk.injEq, and_true] at hv
    obtain ⟨⟨rfl, rfl⟩, _, rfl⟩ := hv
    simp only [List.length_cons] at hc hx
    by_cases hl : 0 < l.length
    · rw [hq hl]
      refine .inr ⟨hl, g, off + 1, cap - 1, rfl, by omega, by omega, hb, fun i hi => ?_⟩
      have := hx (i + 1) (by omega)
      rw [Nat.add_assoc, Nat.add_comm 1 i, this]
      simp [nth, List.getD]
    · have : l = [] := List.eq_nil_of_length_eq_zero (by omega)
      subst this
      exact .inl ⟨rfl, _, _, rfl⟩
theorem Hold.apart2 {F0 : Nat → Prop} {W w : World} {L : List Thing} {e1 e2 : TypeId} {g1 g2 n1 c1 n2 c2 : Nat} {x1 x2 : List Value} (h : Hold F0 W (row e1 1 (.slice (some ⟨g1, 0, none⟩) n1 c1) n1 x1 :: row e2 1 (.slice (some ⟨g2, 0, none⟩) n2 c2) n2 x2 :: L) w) : g1 ≠ g2 := by
  obtain ⟨_, F, ⟨F1, F2, h1, h2, h3, ⟨F3, F4, k1, k2, k3, k4⟩⟩, _⟩ := h
  intro e
  have a1 := h3.2.2 g1 rfl
  have a2 := k3.2.2 g2 rfl
  rw [← e] at a2
  exact h2 g1 a1 ((k1 g1).2 (.inl a2))
/-- Those from number k on. -/
theorem ints_drop {w : World} {k : IntKind} {g off n cap : Nat} {l : List Int} (h : Ints w k (.slice (some ⟨g, off, none⟩) n cap) l) {j : Nat} (hj : j ≤ l.length) {q : Option Addr} (hq : j < l.length → q = some ⟨g, off + j, none⟩) : Ints w k (.slice q (l.length - j) (cap - j)) (l.drop j) := by
  by_cases hl : j < l.length
  · rcases h with ⟨rfl, _⟩ | ⟨h0, b, o, c, hv, hc, hm, hb, hx⟩
    · simp at hl
    · simp only [Value.slice.injEq, Option.some.injEq, Addr.mk.injEq, and_true] at hv
      obtain ⟨⟨rfl, rfl⟩, _, rfl⟩ := hv
      rw [hq hl]
      refine .inr ⟨by rw [List.length_drop]; omega, g, off + j, cap - j, by rw [List.length_drop], by rw [List.length_drop]; omega, by omega, hb, fun i hi => ?_⟩
      rw [List.length_drop] at hi
      rw [Nat.add_assoc, hx (j + i) (by omega)]
      simp [nth, List.getD]
  · have e : l.drop j = [] := List.drop_eq_nil_of_le (by omega)
    rw [e, show l.length - j = 0 by omega]
    exact .inl ⟨rfl, _, _, rfl⟩
end Go.Proofs.Ytcacahokdnpboaa.sep
