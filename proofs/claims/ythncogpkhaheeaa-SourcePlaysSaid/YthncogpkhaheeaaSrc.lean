/- Chapter 4 (source): a time and draws, as a model. Plain mathematics. -/
import Derived.Test.YthncogpkhaheeaaLift
namespace Go.Proofs.Ythncogpkhaheeaa.src
open lift
set_option linter.unusedVariables false
/-- A time, and draws. -/
structure Sc where
  now : Int
  ds : List Int
def top : Int := 18446744073709551615
def dead (a b : Int) : Int := if a + b ≤ top then a + b else top
def tickS (S : Sc) (n : Int) : Sc := ⟨dead S.now n, S.ds⟩
def addE (d : Int) : Int := if d ≤ 63 then 0 else 1
def addS (S : Sc) (d : Int) : Sc := if d ≤ 63 then ⟨S.now, S.ds ++ [d]⟩ else S
/-- What a draw tells, and what is left. -/
def drawV (S : Sc) (n : Int) : Int := if n < 1 then 0 else match S.ds with | [] => 0 | d :: _ => d % n
def drawS (S : Sc) (n : Int) : Sc := if n < 1 then S else ⟨S.now, S.ds.tail⟩
/-- What is ever there: a time that is a number, draws below 64. -/
structure ScOk (S : Sc) : Prop where
  n0 : 0 ≤ S.now
  n1 : S.now ≤ top
  ds : ∀ d ∈ S.ds, 0 ≤ d ∧ d ≤ 63
theorem dead_bd {a b : Int} (ha : 0 ≤ a) (hb : 0 ≤ b) : 0 ≤ dead a b ∧ dead a b ≤ top := by
  unfold dead top
  split <;> omega
theorem dead_ge {a b : Int} (ha : a ≤ top) (hb : 0 ≤ b) : a ≤ dead a b := by
  unfold dead
  split <;> omega
theorem dead_zero {a : Int} (ha : a ≤ top) : dead a 0 = a := by
  unfold dead
  rw [Int.add_zero, if_pos ha]
theorem dead_dead {a b c : Int} (ha : 0 ≤ a) (hb : 0 ≤ b) (hc : 0 ≤ c) : dead (dead a b) c = dead a (b + c) := by
  unfold dead top
  repeat' split
  all_goals omega
theorem ScOk.new : ScOk ⟨0, []⟩ := ⟨by decide, by decide, fun d h => by simp at h⟩
theorem ScOk.tick {S : Sc} (h : ScOk S) {n : Int} (hn : 0 ≤ n) : ScOk (tickS S n) := by
  obtain ⟨h1, h2⟩ := dead_bd h.n0 hn
  exact ⟨h1, h2, h.ds⟩
theorem ScOk.add {S : Sc} (h : ScOk S) {d : Int} (hd : 0 ≤ d) : ScOk (addS S d) := by
  unfold addS
  split
  · refine ⟨h.n0, h.n1, fun x hx => ?_⟩
    rcases List.mem_append.1 hx with hx | hx
    · exact h.ds x hx
    · simp at hx
      subst hx
      omega
  · exact h
theorem ScOk.draw {S : Sc} (h : ScOk S) (n : Int) : ScOk (drawS S n) := by
  unfold drawS
  split
  · exact h
  · exact ⟨h.n0, h.n1, fun x hx => h.ds x (List.mem_of_mem_tail hx)⟩
theorem addS_len (S : Sc) (d : Int) : (addS S d).ds.length ≤ S.ds.length + 1 := by
  unfold addS
  split <;> simp
theorem drawS_len (S : Sc) (n : Int) : (drawS S n).ds.length ≤ S.ds.length := by
  unfold drawS
  split
  · exact Nat.le_refl _
  · simp
/-- The sum of all, as a time. -/
def ticks (l : List Int) (a : Int) : Int := l.foldl dead a
theorem ticks_sum (l : List Int) : ∀ a, 0 ≤ a → a ≤ top → (∀ x ∈ l, 0 ≤ x) → ticks l a = dead a l.sum ∧ 0 ≤ l.sum := by
  induction l with
  | nil => intro a h0 h1 _; exact ⟨(dead_zero h1).symm, Int.le_refl _⟩
  | cons x l ih =>
    intro a h0 h1 hl
    have hx := hl x (List.mem_cons_self ..)
    obtain ⟨b0, b1⟩ := dead_bd h0 hx
    obtain ⟨h2, h3⟩ := ih (dead a x) b0 b1 (fun y hy => hl y (List.mem_cons_of_mem _ hy))
    refine ⟨?_, by rw [List.sum_cons]; omega⟩
    unfold ticks at h2 ⊢
    rw [List.foldl_cons, h2, dead_dead h0 hx h3, List.sum_cons]
end Go.Proofs.Ythncogpkhaheeaa.src
