/- Chapter 5 (lifo): a stack with bounds, as a model: a list, its last word on top. Plain mathematics. -/
import Derived.Test.YtjmbjlijkohkfaaLift
namespace Go.Proofs.Ytjmbjlijkohkfaa.lf
open lift
set_option linter.unusedVariables false
/-- A push or a pop, and what was answered. -/
structure Ans where
  push : Bool
  v : Int
  st : Int
def pushT (l : List Int) (most : Int) : Int := if (l.length : Int) < most then 1 else 2
def pushL (l : List Int) (most x : Int) : List Int := if (l.length : Int) < most then l ++ [x] else l
def popT (l : List Int) : Int := match l with | [] => 2 | _ :: _ => 1
def popV (l : List Int) : Int := l.getLastD 0
def popL (l : List Int) : List Int := l.dropLast
def doL (l : List Int) (most : Int) (o : Ans) : Option (List Int) :=
  if o.st = 6 then some l else if o.push then (if pushT l most = o.st then some (pushL l most o.v) else none) else (if popT l = o.st ∧ popV l = o.v then some (popL l) else none)
def runL : List Int → Int → List Ans → List Int × Nat
  | s, _, [] => (s, 0)
  | s, most, o :: ops => match doL s most o with
    | none => (s, 0)
    | some t => ((runL t most ops).1, (runL t most ops).2 + 1)
theorem pushT_is (l : List Int) (most : Int) : (pushT l most = 1 ∧ (l.length : Int) < most) ∨ (pushT l most = 2 ∧ ¬ (l.length : Int) < most) := by
  unfold pushT
  split <;> simp_all
theorem popT_is (l : List Int) : (popT l = 1 ∧ 0 < l.length) ∨ (popT l = 2 ∧ l = []) := by
  cases l <;> simp [popT]
theorem push_len (l : List Int) (most x : Int) : (pushL l most x).length ≤ l.length + 1 := by
  unfold pushL
  split <;> simp
theorem pop_len (l : List Int) : (popL l).length ≤ l.length := by unfold popL; simp
theorem do_len {l t : List Int} {most : Int} {o : Ans} (h : doL l most o = some t) : t.length ≤ l.length + 1 := by
  unfold doL at h
  have h1 := push_len l most o.v
  have h2 := pop_len l
  repeat' split at h
  all_goals first | (cases h; omega) | cases h
theorem pop_push {l : List Int} {most x : Int} (h : (l.length : Int) < most) : popT (pushL l most x) = 1 ∧ popV (pushL l most x) = x ∧ popL (pushL l most x) = l := by
  have e : pushL l most x = l ++ [x] := by simp [pushL, h]
  rw [e]
  refine ⟨?_, by simp [popV], by simp [popL]⟩
  cases l <;> simp [popT]
/-- What a run goes on from. -/
structure At (s : List Int) (most : Int) (l : List Ans) (i : Nat) (now : List Int) : Prop where
  le : i ≤ l.length
  is : runL s most (l.take i) = (now, i)
theorem run_app {most : Int} : ∀ (a b : List Ans) (s t : List Int), runL s most a = (t, a.length) → runL s most (a ++ b) = ((runL t most b).1, a.length + (runL t most b).2)
  | [], b, s, t, h => by
    simp [runL] at h
    subst h
    simp
  | o :: a, b, s, t, h => by
    rw [List.cons_append, runL]
    rw [runL] at h
    cases hd : doL s most o with
    | none =>
      rw [hd] at h
      simp at h
    | some u =>
      rw [hd] at h
      dsimp only at h ⊢
      have h1 : runL u most a = (t, a.length) := by
        have e1 := congrArg Prod.fst h
        have e2 := congrArg Prod.snd h
        simp at e1 e2
        exact Prod.ext e1 e2
      rw [run_app a b u t h1]
      simp
      omega
theorem At.zero (s : List Int) (most : Int) (l : List Ans) : At s most l 0 s := ⟨Nat.zero_le _, by simp [runL]⟩
theorem At.next {s now t : List Int} {most : Int} {l : List Ans} {i : Nat} (h : At s most l i now) (hi : i < l.length) (hd : doL now most l[i] = some t) : At s most l (i + 1) t := by
  refine ⟨by omega, ?_⟩
  have hl : (l.take i).length = i := by rw [List.length_take]; omega
  have := run_app (l.take i) [l[i]] s now (by rw [hl]; exact h.is)
  rw [List.take_succ_eq_append_getElem hi, this, hl]
  simp [runL, hd]
theorem At.stop {s now : List Int} {most : Int} {l : List Ans} {i : Nat} (h : At s most l i now) (hi : i < l.length) (hd : doL now most l[i] = none) : runL s most l = (now, i) := by
  have hl : (l.take i).length = i := by rw [List.length_take]; omega
  have := run_app (l.take i) (l.drop i) s now (by rw [hl]; exact h.is)
  rw [List.take_append_drop, hl, List.drop_eq_getElem_cons hi] at this
  rw [this]
  simp [runL, hd]
theorem At.all {s now : List Int} {most : Int} {l : List Ans} (h : At s most l l.length now) : runL s most l = (now, l.length) := by
  have := h.is
  rwa [List.take_length] at this
theorem run_le {most : Int} : ∀ (l : List Ans) (s : List Int), (runL s most l).2 ≤ l.length
  | [], s => by simp [runL]
  | o :: l, s => by
    rw [runL]
    cases hd : doL s most o with
    | none => simp
    | some t => have := run_le (most := most) l t; simp; omega
theorem run_at {most : Int} : ∀ (l : List Ans) (s : List Int) (i : Nat), i ≤ (runL s most l).2 → (runL s most (l.take i)).2 = i
  | [], s, i, h => by
    simp [runL] at h
    subst h
    simp [runL]
  | o :: l, s, 0, h => by simp [runL]
  | o :: l, s, i + 1, h => by
    rw [List.take_succ_cons, runL]
    rw [runL] at h
    cases hd : doL s most o with
    | none => rw [hd] at h; simp at h
    | some t =>
      rw [hd] at h
      have := run_at (most := most) l t i (by simpa using h)
      simp [this]
theorem run_take {most : Int} (l : List Ans) (s : List Int) (i : Nat) (h : i ≤ (runL s most l).2) : runL s most (l.take i) = ((runL s most (l.take i)).1, i) := Prod.ext rfl (run_at l s i h)
/-- A run, cut. -/
theorem run_cut {most : Int} (l : List Ans) (s : List Int) (k : Nat) (h : k ≤ (runL s most l).2) :
    runL (runL s most (l.take k)).1 most ((l.take (runL s most l).2).drop k) = ((runL s most l).1, (runL s most l).2 - k) := by
  have hle := run_le (most := most) l s
  obtain ⟨n, hn⟩ : ∃ n, (runL s most l).2 = n := ⟨_, rfl⟩
  rw [hn] at h hle ⊢
  have h1 := run_take (most := most) l s k (by omega)
  have hk : (l.take k).length = k := by rw [List.length_take]; omega
  have h2 : runL s most (l.take n) = ((runL s most l).1, n) := by
    have := run_take (most := most) l s n (by omega)
    rw [this]
    have hl : (l.take n).length = n := by rw [List.length_take]; omega
    have h3 := run_app (l.take n) (l.drop n) s _ (by rw [hl]; exact this)
    rw [List.take_append_drop, hl] at h3
    have h4 : (runL (runL s most (l.take n)).1 most (l.drop n)).2 = 0 := by
      have := congrArg Prod.snd h3
      simp at this
      omega
    have h5 : (runL s most l).1 = (runL s most (l.take n)).1 := by
      rw [h3]
      dsimp only
      generalize l.drop n = r at h4 ⊢
      cases r with
      | nil => rfl
      | cons o r =>
        rw [runL] at h4 ⊢
        cases hd : doL (runL s most (l.take n)).1 most o with
        | none => rfl
        | some t => rw [hd] at h4; simp at h4
    rw [h5]
  have h3 := run_app (l.take k) ((l.take n).drop k) s _ (by rw [hk]; exact h1)
  have e : l.take k ++ (l.take n).drop k = l.take n := by
    have := List.take_append_drop k (l.take n)
    rwa [List.take_take, Nat.min_eq_left h] at this
  rw [e, h2, hk] at h3
  have e1 := congrArg Prod.fst h3
  have e2 := congrArg Prod.snd h3
  dsimp only at e1 e2
  exact Prod.ext e1.symm (by dsimp only; omega)
theorem run_stop {most : Int} : ∀ (l : List Ans) (s : List Int) (h : (runL s most l).2 < l.length), doL (runL s most l).1 most l[(runL s most l).2] = none
  | [], s, h => by simp [runL] at h
  | o :: l, s, h => by
    cases hd : doL s most o with
    | none =>
      have e : runL s most (o :: l) = (s, 0) := by rw [runL, hd]
      simp only [e]
      exact hd
    | some t =>
      have e : runL s most (o :: l) = ((runL t most l).1, (runL t most l).2 + 1) := by rw [runL, hd]
      simp only [e] at h ⊢
      exact run_stop (most := most) l t (by simpa using h)
/-- With a greater bound, without None of a push. -/
theorem do_wider {s t : List Int} {m m' : Int} {o : Ans} (hm : m ≤ m') (ho : o.push = false ∨ o.st ≠ 2) (h : doL s m o = some t) : doL s m' o = some t := by
  unfold doL at h ⊢
  by_cases h6 : o.st = 6
  · simp only [h6, if_true] at h ⊢
    exact h
  · rw [if_neg h6] at h ⊢
    cases hp : o.push with
    | false =>
      rw [hp] at h
      exact h
    | true =>
      rw [hp] at h
      simp only [if_true] at h ⊢
      rcases ho with ho | ho
      · rw [hp] at ho; cases ho
      · unfold pushT pushL at h ⊢
        by_cases hl : (s.length : Int) < m
        · have hl' : (s.length : Int) < m' := by omega
          simp only [hl, if_true] at h
          simp only [hl', if_true]
          exact h
        · simp only [hl, if_false] at h
          split at h
          · omega
          · cases h
theorem run_wider {m m' : Int} (hm : m ≤ m') : ∀ (l : List Ans) (s : List Int), (∀ o ∈ l, o.push = false ∨ o.st ≠ 2) → (runL s m l).2 ≤ (runL s m' l).2 ∧ ((runL s m' l).2 = (runL s m l).2 → (runL s m' l).1 = (runL s m l).1)
  | [], s, _ => by simp [runL]
  | o :: l, s, h => by
    cases hd : doL s m o with
    | none =>
      have e : runL s m (o :: l) = (s, 0) := by rw [runL, hd]
      rw [e]
      refine ⟨Nat.zero_le _, fun h2 => ?_⟩
      cases hd' : doL s m' o with
      | none => rw [runL, hd']
      | some t => rw [runL, hd'] at h2; simp at h2
    | some t =>
      have hd' := do_wider hm (h o (List.mem_cons_self ..)) hd
      have e : runL s m (o :: l) = ((runL t m l).1, (runL t m l).2 + 1) := by rw [runL, hd]
      have e' : runL s m' (o :: l) = ((runL t m' l).1, (runL t m' l).2 + 1) := by rw [runL, hd']
      rw [e, e']
      obtain ⟨h1, h2⟩ := run_wider hm l t (fun o ho => h o (List.mem_cons_of_mem _ ho))
      refine ⟨?_, fun h3 => h2 ?_⟩
      · show _ + 1 ≤ _ + 1
        omega
      · have h3' : (runL t m' l).2 + 1 = (runL t m l).2 + 1 := h3
        omega
/-- By how much an answer makes a stack longer. -/
def gain (o : Ans) : Int := if o.st = 1 then (if o.push then 1 else -1) else 0
theorem do_gain {s t : List Int} {m : Int} {o : Ans} (h : doL s m o = some t) (hs : (s.length : Int) ≤ m) : (t.length : Int) = s.length + gain o ∧ (t.length : Int) ≤ m := by
  unfold doL at h
  unfold gain
  split at h
  · cases h
    rename_i h6
    rw [h6]
    simp
    exact hs
  · cases hp : o.push with
    | true =>
      rw [hp] at h
      simp only [if_true] at h ⊢
      split at h
      · rename_i hq
        cases h
        unfold pushT at hq
        unfold pushL
        split
        · rename_i hl
          rw [if_pos hl] at hq
          rw [if_pos hq.symm]
          simp
          omega
        · rename_i hl
          rw [if_neg hl] at hq
          rw [if_neg (by omega)]
          omega
      · cases h
    | false =>
      rw [hp] at h
      simp only [Bool.false_eq_true, if_false] at h ⊢
      split at h
      · rename_i hq
        cases h
        unfold popL
        rcases popT_is s with ⟨h1, h2⟩ | ⟨h1, h2⟩
        · rw [if_pos (by omega)]
          simp
          omega
        · rw [if_neg (by omega)]
          subst h2
          simp
          simpa using hs
      · cases h
theorem run_len {most : Int} : ∀ (l : List Ans) (s : List Int), (runL s most l).1.length ≤ s.length + l.length
  | [], s => by simp [runL]
  | o :: l, s => by
    rw [runL]
    cases hd : doL s most o with
    | none => simp
    | some t =>
      have h1 := run_len (most := most) l t
      have h2 := do_len hd
      simp
      omega
end Go.Proofs.Ytjmbjlijkohkfaa.lf
