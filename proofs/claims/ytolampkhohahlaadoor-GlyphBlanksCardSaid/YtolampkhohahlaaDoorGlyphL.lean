/- How many entries a text has, and how great they are. Plain mathematics. -/
import Derived.Test.YtolampkhohahlaaDoorGlyphM
namespace Go.Proofs.YtolampkhohahlaaDoor.gl
theorem rune_bd (L : Bs) (hL : ∀ b ∈ L, 0 ≤ b ∧ b ≤ 255) (h0 : L ≠ []) : 0 ≤ (rune L).1 ∧ (rune L).1 ≤ 1310719 := by
  cases L with
  | nil => exact (h0 rfl).elim
  | cons b L =>
    have hb := hL b (by simp)
    have e : bt (b :: L) 0 = b := by simp [bt]
    unfold rune
    dsimp only
    rw [e]
    split
    · exact ⟨hb.1, by omega⟩
    · split
      · cases h1 : inn (b :: L) 1 128 191 with
        | false => simp
        | true =>
          unfold inn at h1
          simp at h1
          simp
          omega
      · split
        · cases h1 : (inn (b :: L) 1 (lo2 b) (hi2 b) && inn (b :: L) 2 128 191) with
          | false => simp
          | true =>
            unfold inn at h1
            simp at h1
            have h2 := lo2_ge b
            have h3 : hi2 b ≤ 191 := by unfold hi2; split <;> omega
            simp
            omega
        · split
          · cases h1 : (inn (b :: L) 1 (lo3 b) (hi3 b) && inn (b :: L) 2 128 191 && inn (b :: L) 3 128 191) with
            | false => simp
            | true =>
              unfold inn at h1
              simp at h1
              have h2 := lo3_ge b
              have h3 : hi3 b ≤ 191 := by unfold hi3; split <;> omega
              simp
              omega
          · simp
theorem done_facts (ok : Bool) (X : Bs) (hX : ∀ b ∈ X, numb b = true) : ((rdOf ok X).done (!X.isEmpty)).args.length ≤ X.length + 1 ∧ ∀ m ∈ ((rdOf ok X).done (!X.isEmpty)).args, U64 m := by
  obtain ⟨h1, h2, h3⟩ := rd_u64 ok X hX
  unfold Rd.done
  split
  · unfold Rd.cut
    dsimp only
    refine ⟨by rw [List.length_append]; simp; exact h2, fun m hm => ?_⟩
    rcases List.mem_append.1 hm with hm | hm
    · exact h3 m hm
    · simp at hm; subst hm; exact h1
  · exact ⟨by omega, h3⟩
theorem entOf_facts (r : Int) (at_ : Nat) (X : Bs) (hX : ∀ b ∈ X, numb b = true) : (entOf r (args X) at_).op = r ∧ (entOf r (args X) at_).args.length ≤ X.length + 1 ∧ ∀ m ∈ (entOf r (args X) at_).args, U64 m := by
  obtain ⟨h1, h2⟩ := done_facts (!numb r) X hX
  rw [rd_done r at_ X hX]
  dsimp only
  refine ⟨rfl, ?_, ?_⟩
  · split
    · exact h1
    · simp
  · split
    · exact h2
    · simp
theorem parse_facts (n : Nat) : ∀ (L : Bs) (at_ : Nat), L.length ≤ n → (∀ b ∈ L, 0 ≤ b ∧ b ≤ 255) →
    (parseAt at_ L).length ≤ L.length ∧ ∀ e ∈ parseAt at_ L, (0 ≤ e.op ∧ e.op ≤ 1310719) ∧ e.args.length ≤ L.length ∧ (∀ m ∈ e.args, U64 m) ∧ at_ ≤ e.at_ ∧ e.at_ ≤ at_ + L.length := by
  induction n with
  | zero =>
    intro L at_ h _
    obtain rfl : L = [] := List.eq_nil_of_length_eq_zero (by omega)
    rw [parseAt_nil]
    simp
  | succ n ih =>
    intro L at_ h hL
    by_cases h0 : L = []
    · subst h0
      rw [parseAt_nil]
      simp
    · have hl : 0 < L.length := List.length_pos_iff.2 h0
      have hn := rune_pos L
      have hnl := rune_le L hl
      have hdl : ∀ k, (L.drop k).length = L.length - k := fun k => List.length_drop
      have hd : ∀ k, ∀ b ∈ L.drop k, 0 ≤ b ∧ b ≤ 255 := fun k b hb => hL b (List.mem_of_mem_drop hb)
      cases hb : blank (rune L).1 with
      | true =>
        rw [parseAt_blank at_ L h0 hb]
        obtain ⟨i1, i2⟩ := ih (L.drop (rune L).2) (at_ + (rune L).2) (by rw [hdl]; omega) (hd _)
        rw [hdl] at i1 i2
        refine ⟨by omega, fun e he => ?_⟩
        obtain ⟨j1, j2, j3, j4, j5⟩ := i2 e he
        exact ⟨j1, by omega, j3, by omega, by omega⟩
      | false =>
        rw [parseAt_entry at_ L h0 hb]
        have hk := nums_le (L.drop (rune L).2)
        rw [hdl] at hk
        obtain ⟨i1, i2⟩ := ih (L.drop ((rune L).2 + (nums (L.drop (rune L).2)).length)) (at_ + (rune L).2 + (nums (L.drop (rune L).2)).length) (by rw [hdl]; omega) (hd _)
        rw [hdl] at i1 i2
        refine ⟨by rw [List.length_cons]; omega, fun e he => ?_⟩
        rcases List.mem_cons.1 he with rfl | he
        · obtain ⟨k1, k2, k3⟩ := entOf_facts (rune L).1 at_ (nums (L.drop (rune L).2)) (nums_all _)
          rw [k1, entOf_at]
          exact ⟨rune_bd L hL h0, by omega, k3, Nat.le_refl _, by omega⟩
        · obtain ⟨j1, j2, j3, j4, j5⟩ := i2 e he
          exact ⟨j1, by omega, j3, by omega, by omega⟩
end Go.Proofs.YtolampkhohahlaaDoor.gl
