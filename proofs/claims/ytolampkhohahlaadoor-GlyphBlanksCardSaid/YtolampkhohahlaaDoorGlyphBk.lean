/- Entries that were put, and parsed again: where each stands, and what is put of it alone. Plain mathematics. -/
import Derived.Test.YtolampkhohahlaaDoorGlyphS
namespace Go.Proofs.YtolampkhohahlaaDoor.gl
def pos (l : List Ent) (i : Nat) : Nat := (put (l.take i)).length
theorem put_take (l : List Ent) (i : Nat) (h : i < l.length) : put (l.take (i + 1)) = put (l.take i) ++ put1 l[i] := by
  unfold put
  rw [List.take_succ_eq_append_getElem h, List.flatMap_append]
  simp
theorem put_split (l : List Ent) (i : Nat) (h : i < l.length) : put l = put (l.take i) ++ put1 l[i] ++ put (l.drop (i + 1)) := by
  rw [← put_take l i h]
  unfold put
  rw [← List.flatMap_append, List.take_append_drop]
theorem pos_succ (l : List Ent) (i : Nat) (h : i < l.length) : pos l (i + 1) = pos l i + (put1 l[i]).length := by
  unfold pos
  rw [put_take l i h, List.length_append]
theorem pos_lt (l : List Ent) (i : Nat) (h : i < l.length) : pos l i < pos l (i + 1) := by
  have := List.length_pos_iff.2 (put1_pos l[i])
  rw [pos_succ l i h]
  omega
theorem pos_le (l : List Ent) (i : Nat) (h : i < l.length) : pos l (i + 1) ≤ (put l).length := by
  rw [put_split l i h, List.length_append, List.length_append, pos_succ l i h]
  unfold pos
  omega
theorem pos_end (l : List Ent) : pos l l.length = (put l).length := by unfold pos; rw [List.take_length]
theorem put_cut (l : List Ent) (i : Nat) (h : i < l.length) : ((put l).take (pos l (i + 1))).drop (pos l i) = put1 l[i] := by
  rw [put_split l i h, pos_succ l i h]
  have e : pos l i + (put1 l[i]).length = (put (l.take i) ++ put1 l[i]).length := by rw [List.length_append]; rfl
  rw [e, List.take_left]
  exact List.drop_left
theorem stands_len (ps : List (Ent × Bs)) : ∀ a, (stands a ps).length = ps.length := by
  induction ps with
  | nil => intro a; rfl
  | cons p ps ih => intro a; rw [stands, List.length_cons, ih, List.length_cons]
theorem stands_at (l : List Ent) : ∀ (a i : Nat) (h : i < (stands a (l.map fun e => (e, ([] : Bs)))).length), ((stands a (l.map fun e => (e, ([] : Bs))))[i]).at_ = a + pos l i := by
  induction l with
  | nil => intro a i h; simp [stands] at h
  | cons e l ih =>
    intro a i h
    cases i with
    | zero => simp [stands, pos, put]
    | succ i =>
      have h' : i < (stands (a + (put1 e ++ []).length) (l.map fun e => (e, ([] : Bs)))).length := by
        simp only [List.map_cons, stands, List.length_cons] at h
        omega
      have := ih (a + (put1 e ++ []).length) i h'
      simp only [List.map_cons, stands, List.getElem_cons_succ]
      rw [this]
      unfold pos put
      rw [List.take_succ_cons, List.flatMap_cons]
      simp only [List.length_append, List.length_nil]
      omega
theorem laid_put (l : List Ent) : laid (l.map fun e => (e, ([] : Bs))) = put l := by
  unfold laid put
  induction l with
  | nil => rfl
  | cons e l ih => rw [List.map_cons, List.flatMap_cons, ih, List.flatMap_cons, List.append_nil]
theorem parse_put (l : List Ent) (hl : ∀ e ∈ l, Good e) : parseAt 0 (put l) = stands 0 (l.map fun e => (e, ([] : Bs))) := by
  rw [← laid_put]
  refine parse_laid _ (fun p hp => ?_) (fun p hp b hb => ?_) 0
  · obtain ⟨e, he, rfl⟩ := List.mem_map.1 hp
    exact hl e he
  · obtain ⟨e, he, rfl⟩ := List.mem_map.1 hp
    simp at hb
theorem good_bad {e : Ent} (h : Good e) : bad e = false := by
  obtain ⟨h1, ⟨h2, h3, h4⟩, h5, h6, h7, _⟩ := h
  unfold bad
  rw [h1, h6, h7]
  simp
  omega
theorem put1_le (e : Ent) (n : Nat) (h : e.args.length ≤ n) : (put1 e).length ≤ 4 + 21 * n := by
  have h1 : (utf8 e.op).length ≤ 4 := by
    unfold utf8
    split
    · simp
    · split
      · simp
      · split <;> simp
  have h2 : ∀ l : List Int, (putA l).length ≤ 21 * l.length := by
    intro l
    induction l with
    | nil => simp [putA]
    | cons n l ih =>
      have hd : (digits n).length ≤ 20 := digF_len 20 _
      cases l with
      | nil => simp [putA]; omega
      | cons m l =>
        rw [putA, List.length_append, List.length_cons]
        simp only [List.length_cons] at ih ⊢
        omega
  have h3 := h2 e.args
  have h4 : 21 * e.args.length ≤ 21 * n := Nat.mul_le_mul_left _ h
  unfold put1
  rw [List.length_append]
  omega
theorem put_le (l : List Ent) (n : Nat) (h : ∀ e ∈ l, e.args.length ≤ n) : (put l).length ≤ (4 + 21 * n) * l.length := by
  unfold put
  induction l with
  | nil => simp
  | cons e l ih =>
    have h1 := ih (fun f hf => h f (List.mem_cons_of_mem _ hf))
    have h2 := put1_le e n (h e (List.mem_cons_self ..))
    rw [List.flatMap_cons, List.length_append, List.length_cons, Nat.mul_succ]
    omega
end Go.Proofs.YtolampkhohahlaaDoor.gl
