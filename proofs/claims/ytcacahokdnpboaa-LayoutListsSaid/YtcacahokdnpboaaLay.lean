/- Chapter 6 (layout): where things are, and the lists that words make, as a model. Plain mathematics. -/
import Derived.Test.YtcacahokdnpboaaLift
namespace Go.Proofs.Ytcacahokdnpboaa.ly
open lift
set_option linter.unusedVariables false
structure Cf where
  nodes : Int
  slots : Int
  holders : Int
  tag : Int
def Ok (c : Cf) : Prop := 1 ≤ c.nodes ∧ c.nodes ≤ 64 ∧ 0 ≤ c.slots ∧ c.slots ≤ 16 ∧ 0 ≤ c.holders ∧ c.holders ≤ 64
instance (c : Cf) : Decidable (Ok c) := by unfold Ok; infer_instance
def checkE (c : Cf) : Int := if Ok c then 0 else 1
def nextP (c : Cf) (i : Int) : Int := if Ok c ∧ 1 ≤ i ∧ i ≤ c.nodes then 2 * i else -1
def valueP (c : Cf) (i : Int) : Int := if Ok c ∧ 1 ≤ i ∧ i ≤ c.nodes then 2 * i + 1 else -1
def slotP (c : Cf) (k : Int) : Int := if Ok c ∧ 0 ≤ k ∧ k < c.slots then 2 + 2 * c.nodes + k else -1
def holderP (c : Cf) (j : Int) : Int := if Ok c ∧ 0 ≤ j ∧ j < c.holders then 2 + 2 * c.nodes + c.slots + j else -1
def cellsN (c : Cf) : Int := if Ok c then 2 + 2 * c.nodes + c.slots + c.holders else 0
def wordP (i t : Int) : Int := 4294967296 * t + i
/-- The fresh word of a place. -/
def freshF (c : Cf) (p : Nat) : Int :=
  if p = 0 then wordP 0 c.tag else if p = 1 then wordP 1 c.tag else
  if (p : Int) < 2 + 2 * c.nodes then (if p % 2 = 0 then (if (p : Int) = 2 * c.nodes then 0 else (p : Int) / 2 + 1) else 0) else
  if (p : Int) < 2 + 2 * c.nodes + c.slots then wordP 0 c.tag else 0
def freshL (c : Cf) : List Int := (List.range (cellsN c).toNat).map (freshF c)
/-- The index of the next node. -/
def nx (ws : List Int) (i : Int) : Int := nth ws (2 * i).toNat % 4294967296
/-- The list from an index on, in so many steps. -/
def walkL (n : Int) (ws : List Int) : Nat → Int → Option (List Int)
  | 0, i => if i = 0 then some [] else none
  | f + 1, i => if i = 0 then some [] else if i < 1 ∨ n < i then none else (walkL n ws f (nx ws i)).map (i :: ·)
def chainL (c : Cf) (ws : List Int) (w : Int) : Option (List Int) := if Ok c ∧ (ws.length : Int) = cellsN c then walkL c.nodes ws 64 (w % 4294967296) else none
def stackL (c : Cf) (ws : List Int) : Option (List Int) := (chainL c ws (nth ws 0)).map fun l => l.reverse.map fun i => nth ws (2 * i + 1).toNat
/-- l is the list from i on. -/
inductive Lst (n : Int) (ws : List Int) : Int → List Int → Prop
  | nil : Lst n ws 0 []
  | cons {i : Int} {l : List Int} : 1 ≤ i → i ≤ n → Lst n ws (nx ws i) l → Lst n ws i (i :: l)
theorem nth_range_map (f : Nat → Int) (n p : Nat) (h : p < n) : nth ((List.range n).map f) p = f p := by simp [nth, List.getD, h]
theorem fresh_len (c : Cf) : ((freshL c).length : Int) = cellsN c := by
  unfold freshL
  rw [List.length_map, List.length_range]
  by_cases h : Ok c
  · simp only [cellsN, h, if_true]
    unfold Ok at h
    omega
  · simp [cellsN, h]
theorem nx_bd (ws : List Int) (i : Int) : 0 ≤ nx ws i ∧ nx ws i < 4294967296 := by unfold nx; omega
section
variable {n : Int} {ws : List Int}
theorem Lst.zero {l : List Int} (h : Lst n ws 0 l) : l = [] := by
  cases h with
  | nil => rfl
  | cons h1 _ _ => omega
theorem Lst.pos {i : Int} {l : List Int} (h : Lst n ws i l) (hi : i ≠ 0) : 1 ≤ i ∧ i ≤ n ∧ ∃ r, l = i :: r ∧ Lst n ws (nx ws i) r := by
  cases h with
  | nil => exact absurd rfl hi
  | cons h1 h2 h3 => exact ⟨h1, h2, _, rfl, h3⟩
theorem Lst.fn {i : Int} {l : List Int} (h : Lst n ws i l) : ∀ {m : List Int}, Lst n ws i m → l = m := by
  induction h with
  | nil => intro m h; exact h.zero.symm
  | cons h1 h2 _ ih =>
    intro m h
    obtain ⟨_, _, r, rfl, hr⟩ := h.pos (by omega)
    rw [ih hr]
theorem Lst.of_mem {i : Int} {l : List Int} (h : Lst n ws i l) : ∀ {j : Int}, j ∈ l → ∃ r, Lst n ws j r ∧ r.length ≤ l.length ∧ (1 ≤ j ∧ j ≤ n) := by
  induction h with
  | nil => intro j h; cases h
  | cons h1 h2 h3 ih =>
    intro j hj
    rcases List.mem_cons.1 hj with rfl | hj
    · exact ⟨_, .cons h1 h2 h3, Nat.le_refl _, h1, h2⟩
    · obtain ⟨r, hr, hl, hb⟩ := ih hj
      exact ⟨r, hr, by simp; omega, hb⟩
theorem Lst.nodup {i : Int} {l : List Int} (h : Lst n ws i l) : l.Nodup := by
  induction h with
  | nil => exact List.nodup_nil
  | cons h1 h2 h3 ih =>
    refine List.nodup_cons.2 ⟨fun hm => ?_, ih⟩
    obtain ⟨r, hr, hl, _⟩ := h3.of_mem hm
    have := hr.fn (.cons h1 h2 h3)
    rw [this] at hl
    simp at hl
    omega
theorem nodup_len : ∀ (k : Nat) (l : List Int), l.Nodup → (∀ x ∈ l, 1 ≤ x ∧ x ≤ (k : Int)) → l.length ≤ k
  | 0, l, _, h => by
    cases l with
    | nil => simp
    | cons x l => have := h x (List.mem_cons_self ..); omega
  | k + 1, l, hn, h => by
    have h1 := nodup_len k (l.filter (fun x => x != ((k + 1 : Nat) : Int))) (hn.filter _) (fun x hx => by
      obtain ⟨hx1, hx2⟩ := List.mem_filter.1 hx
      have := h x hx1
      have h3 : x ≠ ((k + 1 : Nat) : Int) := by simpa using hx2
      omega)
    have h2 : ∀ (l : List Int), l.Nodup → ∀ a : Int, l.length ≤ (l.filter (fun x => x != a)).length + 1 := by
      intro l
      induction l with
      | nil => intro _ _; simp
      | cons y l ih =>
        intro hn a
        obtain ⟨hy, hn2⟩ := List.nodup_cons.1 hn
        by_cases hya : y = a
        · subst hya
          have e : l.filter (fun x => x != y) = l := List.filter_eq_self.2 fun x hx => by
            have : x ≠ y := fun e => hy (e ▸ hx)
            simpa using this
          rw [List.filter_cons_of_neg (by simp), e]
          simp
        · rw [List.filter_cons_of_pos (by simpa using hya)]
          have := ih hn2 a
          simp
          omega
    have := h2 l hn ((k + 1 : Nat) : Int)
    omega
theorem Lst.len {i : Int} {l : List Int} (h : Lst n ws i l) (hn : 0 ≤ n) : (l.length : Int) ≤ n := by
  have := nodup_len n.toNat l h.nodup (fun x hx => by
    obtain ⟨_, _, _, hb⟩ := h.of_mem hx
    omega)
  omega
theorem walk_iff : ∀ (f : Nat) (i : Int) (l : List Int), walkL n ws f i = some l ↔ Lst n ws i l ∧ l.length ≤ f
  | 0, i, l => by
    unfold walkL
    by_cases hi : i = 0
    · subst hi
      rw [if_pos rfl]
      constructor
      · intro h; cases h; exact ⟨.nil, Nat.le_refl _⟩
      · intro ⟨h, _⟩; rw [h.zero]
    · rw [if_neg hi]
      constructor
      · intro h; cases h
      · intro ⟨h, hl⟩
        obtain ⟨_, _, r, rfl, _⟩ := h.pos hi
        simp at hl
  | f + 1, i, l => by
    unfold walkL
    by_cases hi : i = 0
    · subst hi
      rw [if_pos rfl]
      constructor
      · intro h; cases h; exact ⟨.nil, Nat.zero_le _⟩
      · intro ⟨h, _⟩; rw [h.zero]
    · rw [if_neg hi]
      by_cases hb : i < 1 ∨ n < i
      · rw [if_pos hb]
        constructor
        · intro h; cases h
        · intro ⟨h, _⟩
          obtain ⟨h1, h2, _⟩ := h.pos hi
          omega
      · rw [if_neg hb]
        constructor
        · intro h
          obtain ⟨r, hr, rfl⟩ := Option.map_eq_some_iff.1 h
          obtain ⟨h1, h2⟩ := (walk_iff f _ r).1 hr
          exact ⟨.cons (by omega) (by omega) h1, by simp; omega⟩
        · intro ⟨h, hl⟩
          obtain ⟨_, _, r, rfl, hr⟩ := h.pos hi
          rw [(walk_iff f _ r).2 ⟨hr, by simpa using hl⟩]
          rfl
end
theorem chain_iff {c : Cf} {ws : List Int} {w : Int} (hc : Ok c) (hl : (ws.length : Int) = cellsN c) (l : List Int) : chainL c ws w = some l ↔ Lst c.nodes ws (w % 4294967296) l := by
  unfold chainL
  rw [if_pos ⟨hc, hl⟩, walk_iff]
  constructor
  · exact fun h => h.1
  · intro h
    have := h.len (by unfold Ok at hc; omega)
    unfold Ok at hc
    exact ⟨h, by omega⟩
theorem chain_none {c : Cf} {ws : List Int} {w : Int} (hc : Ok c) (hl : (ws.length : Int) = cellsN c) (h : ∀ l, ¬ Lst c.nodes ws (w % 4294967296) l) : chainL c ws w = none := by
  cases hd : chainL c ws w with
  | none => rfl
  | some l => exact absurd ((chain_iff hc hl l).1 hd) (h l)
/-- How far a walk has come: the nodes that it has, and the index that it stands at. -/
inductive Came (n : Int) (ws : List Int) (i0 : Int) : List Int → Int → Prop
  | here : Came n ws i0 [] i0
  | next {out : List Int} {i : Int} : Came n ws i0 out i → 1 ≤ i → i ≤ n → i ∉ out → Came n ws i0 (out ++ [i]) (nx ws i)
section
variable {n : Int} {ws : List Int} {i0 : Int}
theorem Came.mem {out : List Int} {i : Int} (h : Came n ws i0 out i) : ∀ x ∈ out, 1 ≤ x ∧ x ≤ n := by
  induction h with
  | here => intro x hx; cases hx
  | next _ h1 h2 _ ih =>
    intro x hx
    rcases List.mem_append.1 hx with hx | hx
    · exact ih x hx
    · simp at hx
      subst hx
      exact ⟨h1, h2⟩
theorem Came.nodup {out : List Int} {i : Int} (h : Came n ws i0 out i) : out.Nodup := by
  induction h with
  | here => exact List.nodup_nil
  | next _ _ _ h3 ih =>
    rw [List.nodup_append]
    refine ⟨ih, by simp, ?_⟩
    intro a ha b hb
    simp at hb
    subst hb
    exact fun e => h3 (e ▸ ha)
theorem Came.len {out : List Int} {i : Int} (h : Came n ws i0 out i) (hn : 0 ≤ n) : (out.length : Int) ≤ n := by
  have := nodup_len n.toNat out h.nodup (fun x hx => by have := h.mem x hx; omega)
  omega
theorem Came.lst {out : List Int} {i : Int} (h : Came n ws i0 out i) : ∀ {l : List Int}, Lst n ws i l → Lst n ws i0 (out ++ l) := by
  induction h with
  | here => intro l h; exact h
  | next _ h1 h2 _ ih =>
    intro l hl
    rw [List.append_assoc]
    exact ih (.cons h1 h2 hl)
theorem Came.of_lst {out : List Int} {i : Int} (h : Came n ws i0 out i) : ∀ {m : List Int}, Lst n ws i0 m → ∃ l, m = out ++ l ∧ Lst n ws i l := by
  induction h with
  | here => intro m hm; exact ⟨m, rfl, hm⟩
  | next _ h1 h2 _ ih =>
    intro m hm
    obtain ⟨l, rfl, hl⟩ := ih hm
    obtain ⟨_, _, r, rfl, hr⟩ := hl.pos (by omega)
    exact ⟨r, by simp, hr⟩
/-- It is at the end. -/
theorem Came.done {out : List Int} (h : Came n ws i0 out 0) : Lst n ws i0 out := by simpa using h.lst .nil
/-- It came to a node that it has. -/
theorem Came.again {out : List Int} {i : Int} (h : Came n ws i0 out i) (hi : i ∈ out) (m : List Int) : ¬ Lst n ws i0 m := fun hm => by
  obtain ⟨l, rfl, hl⟩ := h.of_lst hm
  have hb := h.mem i hi
  obtain ⟨_, _, r, rfl, _⟩ := hl.pos (by omega)
  have := hm.nodup
  rw [List.nodup_append] at this
  exact this.2.2 i hi i (List.mem_cons_self ..) rfl
/-- It came to an index that is none. -/
theorem Came.off {out : List Int} {i : Int} (h : Came n ws i0 out i) (h0 : i ≠ 0) (hi : n < i) (m : List Int) : ¬ Lst n ws i0 m := fun hm => by
  obtain ⟨l, rfl, hl⟩ := h.of_lst hm
  obtain ⟨_, h2, _⟩ := hl.pos h0
  omega
end
end Go.Proofs.Ytcacahokdnpboaa.ly
