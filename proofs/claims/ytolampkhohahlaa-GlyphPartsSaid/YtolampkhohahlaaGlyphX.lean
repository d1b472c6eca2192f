/- Rows of the reference's entries: an entry's place is written, rows are put one behind the other. -/
import Derived.Test.YtolampkhohahlaaGlyphT
import Derived.Laws.AppendOwnNone
namespace Go.Proofs.Ytolampkhohahlaa.g3
open Go.ChangeShapes Go.WideShapes Go.ChangeAt Go.RowKit frame lift gl own
set_option linter.unusedVariables false
theorem same_refl (l : List Ent) (t : Bool) : same l l t = true := by
  induction l with
  | nil => rfl
  | cons e l ih =>
    rw [same, ih]
    unfold sameE
    simp
theorem ints_set {w : World} {v : Value} {l : List Int} (h : Ints w .u64 v l) {p : Addr} {z : Int} (hp : w.cell? p = some (.int .i64 z)) (u : Value) : Ints (w.setCell p u) .u64 v l := by
  rcases h with h | ⟨h0, b, off, cap, h1, h2, h3, h4, h5⟩
  · exact .inl h
  · refine .inr ⟨h0, b, off, cap, h1, h2, h3, by simpa [World.setCell] using h4, fun j hj => ?_⟩
    rw [World.cell?_setCell_other]
    · exact h5 j hj
    · rintro rfl
      rw [h5 j hj] at hp
      simp at hp
theorem AsRow.form {w : World} {B : Nat} {v : Value} {l : List Ent} (h : AsRow w B v l) : ∃ a cap, v = .slice a l.length cap ∧ (0 < l.length → ∃ g, a = some ⟨g, 0, none⟩ ∧ B ≤ g ∧ g < w.heap.size) := by
  obtain ⟨ps, rfl, h1, h2⟩ := h
  obtain ⟨h3, ⟨rfl, h4⟩ | ⟨g, cap, cur, rfl, hg, hh, r⟩⟩ := h1
  · exact ⟨none, 0, by simp [h4], fun h => by simp at h; omega⟩
  · exact ⟨_, cap, by simp, fun _ => ⟨g, rfl, hg, (Array.getElem?_eq_some_iff.1 hh).1⟩⟩
theorem AsRow.set {w : World} {B : Nat} {v : Value} {l : List Ent} (h : AsRow w B v l) {p : Addr} {z : Int} (hp : w.cell? p = some (.int .i64 z)) (hv : v.ownBlock ≠ some p.block) (u : Value) : AsRow (w.setCell p u) B v l := by
  obtain ⟨ps, h0, h1, h2⟩ := h
  exact ⟨ps, h0, ownsRow_setCell_other h1 hv u, fun q hq => ints_set (h2 q hq) hp u⟩
theorem flatMap_at (ps : List (Value × Ent)) (i f : Nat) (hi : i < ps.length) (hf : f < 4) : (ps.flatMap encE)[i * 4 + f]? = (encE ps[i])[f]? := by
  induction ps generalizing i with
  | nil => simp at hi
  | cons p l ih =>
    rw [List.flatMap_cons]
    cases i with
    | zero =>
      rw [Nat.zero_mul, Nat.zero_add, List.getElem?_append_left (by rw [encE_len]; exact hf)]
      rfl
    | succ i =>
      rw [List.getElem?_append_right (by rw [encE_len]; omega), encE_len, show (i + 1) * 4 + f - 4 = i * 4 + f by omega]
      exact ih i (by simpa using hi)
theorem flatMap_set (ps : List (Value × Ent)) (i z : Nat) (hi : i < ps.length) : (ps.flatMap encE).set (i * 4 + 3) (.int .i64 z) = (ps.set i (ps[i].1, { ps[i].2 with at_ := z })).flatMap encE := by
  induction ps generalizing i with
  | nil => simp at hi
  | cons p l ih =>
    cases i with
    | zero =>
      rw [List.flatMap_cons, List.set_append_left _ _ (by rw [encE_len]; omega)]
      rfl
    | succ i =>
      rw [List.flatMap_cons, List.set_append_right _ _ (by rw [encE_len]; omega), encE_len, show (i + 1) * 4 + 3 - 4 = i * 4 + 3 by omega, ih i (by simpa using hi)]
      rfl
/-- The place of entry i is written. -/
theorem AsRow.place {w : World} {B g n cap : Nat} {l : List Ent} (h : AsRow w B (.slice (some ⟨g, 0, none⟩) n cap) l) (i z : Nat) (hi : i < l.length) :
    (w.cell? ⟨g, i * 4 + 3, none⟩ = some (.int .i64 l[i].at_) ∧ w.frozen? ⟨g, i * 4 + 3, none⟩ = false) ∧
    AsRow (w.setCell ⟨g, i * 4 + 3, none⟩ (.int .i64 z)) B (.slice (some ⟨g, 0, none⟩) n cap) (l.set i { l[i] with at_ := z }) := by
  obtain ⟨ps, rfl, h1, h2⟩ := h
  have hi' : i < ps.length := by simpa using hi
  obtain ⟨a, c, hv⟩ : ∃ a c, Value.slice (some ⟨g, 0, none⟩) n cap = .slice a ps.length c := by
    rcases h1.2 with ⟨h3, _⟩ | ⟨g', c', _, h3, _⟩
    · simp at h3
    · exact ⟨_, _, h3⟩
  simp only [Value.slice.injEq] at hv
  obtain ⟨_, rfl, _⟩ := hv
  obtain ⟨cur, hblk⟩ := ownsRow_elem h1 rfl
  have hc : w.cell? ⟨g, i * 4 + 3, none⟩ = some (.int .i64 ps[i].2.at_) := by
    have h3 := h1.cells (g := g) rfl (i * 4 + 3) (.int .i64 ps[i].2.at_) (by rw [flatMap_at ps i 3 hi' (by omega)]; rfl)
    rw [add_plain] at h3
    simpa using h3
  refine ⟨⟨by simpa using hc, frozen_of_row w g _ _ _ hblk⟩, ps.set i (ps[i].1, { ps[i].2 with at_ := z }), ?_, ?_, ?_⟩
  · rw [List.map_set]
    simp
  · have := (h1.stored (i * 4 + 3) (.int .i64 z)).1
    rw [flatMap_set ps i z hi'] at this
    simpa using this
  · intro q hq
    have hI := h2 ps[i] (List.getElem_mem hi')
    rcases List.mem_or_eq_of_mem_set hq with hq | rfl
    · exact ints_set (h2 q hq) hc _
    · exact ints_set hI hc _
/-- As AsRow; the numbers were there in an elder world. -/
def AsRowW (W0 w : World) (B : Nat) (v : Value) (l : List Ent) : Prop := ∃ ps : List (Value × Ent), ps.map (·.2) = l ∧ w.ownsRow B 29 4 v ps.length (ps.flatMap encE) ∧ ∀ p ∈ ps, Ints W0 .u64 p.1 p.2.args
theorem AsRowW.fin {W0 w : World} {B : Nat} {v : Value} {l : List Ent} (h : AsRowW W0 w B v l) (hb : Below W0.heap.size W0 w) : AsRow w B v l := by
  obtain ⟨ps, h0, h1, h2⟩ := h
  exact ⟨ps, h0, h1, fun p hp => (h2 p hp).below hb⟩
theorem AsRowW.below {W0 w w' : World} {B : Nat} {v : Value} {l : List Ent} (h : AsRowW W0 w B v l) (hb : Below w.heap.size w w') : AsRowW W0 w' B v l := by
  obtain ⟨ps, h0, ⟨h3, h4⟩, h2⟩ := h
  refine ⟨ps, h0, ⟨h3, ?_⟩, h2⟩
  rcases h4 with h4 | ⟨g, cap, cur, hv, hg, hh, r⟩
  · exact .inl h4
  · exact .inr ⟨g, cap, cur, hv, hg, by rw [hb.block g (Array.getElem?_eq_some_iff.1 hh).1]; exact hh, r⟩
theorem AsRowW.blk {W0 w : World} {B : Nat} {v : Value} {l : List Ent} (h : AsRowW W0 w B v l) : ∀ g, v.ownBlock = some g → B ≤ g ∧ g < w.heap.size := by
  obtain ⟨ps, h0, h1, h2⟩ := h
  exact fun g hg => World.ownsRow.lt h1 g hg
theorem AsRow.blk {w : World} {B : Nat} {v : Value} {l : List Ent} (h : AsRow w B v l) : ∀ g, v.ownBlock = some g → B ≤ g ∧ g < w.heap.size := by
  obtain ⟨ps, h0, h1, h2⟩ := h
  exact fun g hg => World.ownsRow.lt h1 g hg
theorem AsRow.w {w : World} {B : Nat} {v : Value} {l : List Ent} (h : AsRow w B v l) : AsRowW w w B v l := h
theorem empty_row (w : World) (W0 : World) : AsRowW W0 (w.alloc (.cells #[] 29)) w.heap.size (.slice (some ⟨w.heap.size, 0, none⟩) 0 0) [] :=
  ⟨[], rfl, row_lit w #[] 29 0 4 rfl (by decide), fun p hp => by simp at hp⟩
theorem grown_below {W0 w w' : World} {v : Value} {l : List Ent} (h : Below W0.heap.size W0 w) (hg : w.grownBy w' v.ownBlock) (hr : AsRowW W0 w W0.heap.size v l) : Below W0.heap.size W0 w' :=
  h.grown hg h.size (fun g e => (hr.blk g e).1)
/-- One more place is shifted. -/
theorem shift_step (l : List Ent) (d k : Nat) (hk : k < l.length) : ((l.take k).map (shift d) ++ l.drop k).length = l.length ∧ (∀ h : k < ((l.take k).map (shift d) ++ l.drop k).length, ((l.take k).map (shift d) ++ l.drop k)[k] = l[k]) ∧
    ((l.take k).map (shift d) ++ l.drop k).set k { l[k] with at_ := l[k].at_ + d } = (l.take (k + 1)).map (shift d) ++ l.drop (k + 1) := by
  have hlen : ((l.take k).map (shift d)).length = k := by rw [List.length_map, List.length_take]; omega
  have hd : l.drop k = l[k] :: l.drop (k + 1) := List.drop_eq_getElem_cons hk
  refine ⟨by rw [List.length_append, hlen, List.length_drop]; omega, fun h => ?_, ?_⟩
  · rw [List.getElem_append_right (by rw [hlen]; exact Nat.le_refl _)]
    have e : k - ((l.take k).map (shift d)).length = 0 := by omega
    simp only [e]
    rw [List.getElem_drop]
    rfl
  · rw [List.set_append_right _ _ (by rw [hlen]; exact Nat.le_refl _), hlen, Nat.sub_self, hd, List.set_cons_zero, List.take_succ_eq_append_getElem hk, List.map_append, List.append_assoc]
    rfl
/-- A row behind a row. -/
theorem wpList_rows {w : World} {ops : Array Oper} {rest : List Oper} {o : Oper} {a : Act} {Q : Exit → Act → World → Prop} (hgd : o.guard = none) (s x : Operand)
    (ho : o.op = .call { callee := .builtin .append, args := #[s, x], argTypes := #[23, 23] })
    (W0 : World) (B B2 : Nat) (v vx : Value) (l lx : List Ent) (hs : a.eval s = v) (hx : a.eval x = vx) (h1 : AsRowW W0 w B v l) (h2 : AsRowW W0 w B2 vx lx) (hl : l.length ≤ 1000000) (hlx : lx.length ≤ 1000000) (hB : B ≤ w.heap.size)
    (h : ∀ v' w', w.grownBy w' v.ownBlock → AsRowW W0 w' B v' (l ++ lx) → wpList Try.prog ops Q rest (a.put o.dst v') w') : wpList Try.prog ops Q (o :: rest) a w := by
  obtain ⟨ps, rfl, h3, h4⟩ := h1
  obtain ⟨qs, rfl, h5, h6⟩ := h2
  obtain ⟨i0, hi, hz0, hz1, hz2⟩ := info_parts infoE
  simp only [List.length_map] at hl hlx
  obtain ⟨h7, ⟨h8, h9⟩ | ⟨g, cap, cur, h8, h9, h10, h11, h12, h13⟩⟩ := h5
  · have hq : qs = [] := List.eq_nil_of_length_eq_zero h9
    subst hq
    refine wpList_append_own_none hgd s x 23 ho B 29 i0 4 Try.underlying23 hi v ps.length _ hs h3 (by rw [hx, h8]) ?_
    exact h v w ⟨rfl, rfl, rfl, Nat.le_refl _, fun _ _ _ => rfl⟩ ⟨ps, by simp, h3, h4⟩
  · have h5 : w.ownsRow B2 29 4 vx qs.length (qs.flatMap encE) := ⟨h7, .inr ⟨g, cap, cur, h8, h9, h10, h11, h12, h13⟩⟩
    refine wpList_append_own w hgd s x 23 ho B 29 i0 _ 4 48 Try.underlying23 hi hz0 hz1 hz2 rfl (by decide) v ps.length _ hs h3 ⟨g, 0, none⟩ qs.length cap (qs.flatMap encE) (by rw [hx, h8]) h7
      (fun j u hj => h5.cells (g := g) (by rw [h8]; rfl) j u hj) ?_ (by simp only [maxLen]; omega) (by omega) hB ?_
    · intro u hu
      obtain ⟨q, hq, hu⟩ := List.mem_flatMap.1 hu
      refine encE_one q ?_ u hu
      rcases h6 q hq with ⟨_, a, c, e⟩ | ⟨_, b, o, c, e, _⟩
      · exact ⟨_, _, _, e⟩
      · exact ⟨_, _, _, e⟩
    · intro v' w' h14 h15 _
      refine h v' w' h15 ⟨ps ++ qs, by simp, by simpa using h14, fun q hq => ?_⟩
      rcases List.mem_append.1 hq with hq | hq
      · exact h4 q hq
      · exact h6 q hq
end Go.Proofs.Ytolampkhohahlaa.g3
