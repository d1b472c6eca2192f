/- The law's parameter 'acts', opened; what acts lead to; over this seat's program. -/
import Derived.Test.YthncogpkhaheeaaStructs
import Derived.Test.YthncogpkhaheeaaSrcRefAdd
namespace Go.Proofs.Ythncogpkhaheeaa.src
open Go.ChangeShapes Go.WideShapes Go.ChangeAt Go.RowKit frame lift sep
set_option linter.unusedVariables false
structure ActS where
  op : Int
  n : Int
  w : Int
def ActSOk (a : ActS) : Prop := (-9223372036854775808 ≤ a.op ∧ a.op ≤ 9223372036854775807) ∧ (-9223372036854775808 ≤ a.n ∧ a.n ≤ 9223372036854775807) ∧ (0 ≤ a.w ∧ a.w ≤ top)
/-- A slice of acts. -/
def Acts (W : World) (v : Value) (l : List ActS) : Prop :=
  (l = [] ∧ ∃ (a : Option Addr) (cap : Nat), v = .slice a 0 cap) ∨
  (0 < l.length ∧ ∃ (b off cap : Nat), v = .slice (some ⟨b, off, none⟩) l.length cap ∧ l.length ≤ cap ∧ cap ≤ maxLen ∧ b < W.heap.size ∧
    ∀ (i : Nat) (h : i < l.length), W.cell? ⟨b, off + i * 3, none⟩ = some (.int .i64 l[i].op) ∧ W.cell? ⟨b, off + i * 3 + 1, none⟩ = some (.int .i64 l[i].n) ∧ W.cell? ⟨b, off + i * 3 + 2, none⟩ = some (.int .u64 l[i].w))
def ActsOk (l : List ActS) : Prop := ∀ a ∈ l, ActSOk a
def actKinds : List FK := [.int .i64, .int .i64, .int .u64]
theorem int_of {k : IntKind} {v : Value} (h : (FK.int k).ok v) : v = .int k (intOf v) ∧ (Lit.int k (intOf v)).wf = true := by
  obtain ⟨n, rfl, hw⟩ := h
  exact ⟨rfl, hw⟩
theorem open_acts {H : Type} {enc : TypeId × Value → H} {W : World} {v : Value} {d : DataW H} {p : List MemPlace} (hv : ∃ a len cap, v = .slice a len cap) (h : DataW.Trod enc Try.prog W 0 (fun _ => true) true 22 v d p) :
    ∃ l, Acts W v l ∧ ActsOk l := by
  obtain ⟨n, R, hS, hR⟩ := open_structs (fks := actKinds) Try.underlying22 Try.underlying32 (by kernel_rfl) (by kernel_rfl) rfl (by decide) (fun j f fk hj hk => by
    match j, hj, hk with
    | 0, hj, hk => simp at hj; simp [actKinds] at hk; subst hj; subst hk; exact Try.underlying3
    | 1, hj, hk => simp at hj; simp [actKinds] at hk; subst hj; subst hk; exact Try.underlying3
    | 2, hj, hk => simp at hj; simp [actKinds] at hk; subst hj; subst hk; exact Try.underlying23
    | j + 3, hj, hk => simp [actKinds] at hk) hv h
  let l : List ActS := (List.range n).map fun i => ⟨intOf (R i 0), intOf (R i 1), intOf (R i 2)⟩
  have hl : l.length = n := by simp [l]
  refine ⟨l, ?_, fun a ha => ?_⟩
  · rcases hS with ⟨rfl, a, cap, rfl⟩ | ⟨h0, b, off, cap, rfl, h1, h2, h3, h4⟩
    · exact .inl ⟨rfl, a, cap, rfl⟩
    · refine .inr ⟨by omega, b, off, cap, by rw [hl], by omega, h2, h3, fun i hi => ?_⟩
      have hin : i < n := by omega
      have e : l[i] = ⟨intOf (R i 0), intOf (R i 1), intOf (R i 2)⟩ := by simp [l]
      rw [e]
      have c (j : Nat) (hj : j < 3) : W.cell? ⟨b, off + i * 3 + j, none⟩ = some (R i j) := by
        rw [Nat.add_assoc]
        exact h4 i hin j hj
      refine ⟨?_, ?_, ?_⟩
      · rw [← (int_of (hR i hin 0 _ rfl)).1]; exact c 0 (by decide)
      · rw [← (int_of (hR i hin 1 _ rfl)).1]; exact c 1 (by decide)
      · rw [← (int_of (hR i hin 2 _ rfl)).1]; exact c 2 (by decide)
  · simp only [l, List.mem_map, List.mem_range] at ha
    obtain ⟨i, hin, rfl⟩ := ha
    exact ⟨bd_i64 (int_of (hR i hin 0 _ rfl)).2, bd_i64 (int_of (hR i hin 1 _ rfl)).2, bd_u64 (int_of (hR i hin 2 _ rfl)).2⟩
theorem acts_form {W : World} {v : Value} {l : List ActS} (h : Acts W v l) : ∃ a cap, v = .slice a l.length cap := by
  rcases h with ⟨rfl, a, cap, rfl⟩ | ⟨h0, b, off, cap, rfl, _⟩
  · exact ⟨_, _, rfl⟩
  · exact ⟨_, _, rfl⟩
theorem acts_at {W wr : World} {aa : Option Addr} {n cap : Nat} {l : List ActS} (h : Acts W (.slice aa n cap) l) (hb : Below W.heap.size W wr) (i : Nat) (hi : i < l.length) :
    ∃ b off, aa = some ⟨b, off, none⟩ ∧ wr.cell? ⟨b, off + i * 3, none⟩ = some (.int .i64 l[i].op) ∧ wr.cell? ⟨b, off + i * 3 + 1, none⟩ = some (.int .i64 l[i].n) ∧ wr.cell? ⟨b, off + i * 3 + 2, none⟩ = some (.int .u64 l[i].w) := by
  rcases h with ⟨rfl, _⟩ | ⟨_, b, off, cap', hv, _, _, hbl, hc⟩
  · simp at hi
  · simp only [Value.slice.injEq] at hv
    have e : ∀ j, wr.cell? ⟨b, j, none⟩ = W.cell? ⟨b, j, none⟩ := fun j => hb.cell (p := ⟨b, j, none⟩) hbl
    refine ⟨b, off, hv.1, ?_⟩
    simp only [e]
    exact hc i hi
def stepS (S : Sc) (a : ActS) : Sc := if pickI a.op 6 < 2 then tickS S a.w else if pickI a.op 6 < 4 then addS S a.w else drawS S a.n
def playS (l : List ActS) (k : Nat) : Sc := (l.take k).foldl stepS ⟨0, []⟩
theorem playS_succ {l : List ActS} {k : Nat} (h : k < l.length) : playS l (k + 1) = stepS (playS l k) l[k] := by
  unfold playS
  rw [List.take_succ_eq_append_getElem h, List.foldl_append]
  rfl
theorem stepS_ok {S : Sc} (h : ScOk S) {a : ActS} (ha : ActSOk a) : ScOk (stepS S a) := by
  unfold stepS
  split
  · exact h.tick ha.2.2.1
  · split
    · exact h.add ha.2.2.1
    · exact h.draw _
theorem stepS_len (S : Sc) (a : ActS) : (stepS S a).ds.length ≤ S.ds.length + 1 := by
  unfold stepS
  split
  · exact Nat.le_succ _
  · split
    · exact addS_len _ _
    · exact Nat.le_succ_of_le (drawS_len _ _)
theorem playS_ok {l : List ActS} (h : ActsOk l) : ∀ k, ScOk (playS l k) := fun k => by
  induction k with
  | zero => exact ScOk.new
  | succ k ih =>
    by_cases hk : k < l.length
    · rw [playS_succ hk]
      exact stepS_ok ih (h _ (List.getElem_mem hk))
    · unfold playS at ih ⊢
      rw [List.take_of_length_le (by omega)] at ih ⊢
      exact ih
theorem playS_len (l : List ActS) : ∀ k, (playS l k).ds.length ≤ k := fun k => by
  induction k with
  | zero => exact Nat.le_refl _
  | succ k ih =>
    by_cases hk : k < l.length
    · rw [playS_succ hk]
      have := stepS_len (playS l k) l[k]
      omega
    · unfold playS at ih ⊢
      rw [List.take_of_length_le (by omega)] at ih ⊢
      omega
section
variable {F0 : Nat → Prop} {W w : World} {b : Nat} {S : Sc} {M : List Thing}
theorem rtick_in (h : Hold F0 W (rsrc b S :: M) w) (hS : ScOk S) (n : Int) (hn : 0 ≤ n) (hn1 : n ≤ top) :
    Calls Try.prog 14 #[.pointer (some ⟨b, 0, none⟩), .int .u64 n] w fun e w' => e = .returned (.tuple #[]) ∧ Hold F0 W (rsrc b (tickS S n) :: M) w' :=
  Hold.call (L := [rsrc b S]) (L' := [rsrc b (tickS S n)]) h (fun F hF => rtick_any hF hS n hn hn1)
theorem radd_in (h : Hold F0 W (rsrc b S :: M) w) (hl : S.ds.length ≤ 1000000) (d : Int) (hd : 0 ≤ d) (hd1 : d ≤ top) :
    Calls Try.prog 16 #[.pointer (some ⟨b, 0, none⟩), .int .u64 d] w fun e w' => e = .returned (.int .i64 (addE d)) ∧ Hold F0 W (rsrc b (addS S d) :: M) w' :=
  Hold.call (L := [rsrc b S]) (L' := [rsrc b (addS S d)]) h (fun F hF => radd_any hF hl d hd hd1)
theorem rdraw_in (h : Hold F0 W (rsrc b S :: M) w) (hS : ScOk S) (hl : S.ds.length ≤ 1000000) (n : Int) (hn1 : n ≤ 9223372036854775807) :
    Calls Try.prog 18 #[.pointer (some ⟨b, 0, none⟩), .int .i64 n] w fun e w' => e = .returned (.int .i64 (drawV S n)) ∧ Hold F0 W (rsrc b (drawS S n) :: M) w' :=
  Hold.call (L := [rsrc b S]) (L' := [rsrc b (drawS S n)]) h (fun F hF => rdraw_any hF hS hl n hn1)
/-- The document's source, made: its two cells in a new block. -/
theorem rnew (h : Hold F0 W M w) : Hold F0 W (rsrc w.heap.size ⟨0, []⟩ :: M) (w.alloc (.cells #[.int .u64 0, .slice none 0 0] 30 (0, 0))) :=
  rsrc_close (S := ⟨0, []⟩) (v := .slice none 0 0) ((h.nilRow 23 1).rowView (l := []).newBlk _)
/-- What the document's source shows: its time, and how many draws there are. -/
theorem rsees (h : Hold F0 W M w) (hb : rsrc b S ∈ M) : w.cell? ⟨b, 0, none⟩ = some (.int .u64 S.now) ∧ ∃ a c, w.cell? ⟨b, 1, none⟩ = some (.slice a S.ds.length c) := by
  obtain ⟨F, v, F1, F2, h1, h2, h3, h4⟩ := h.get _ hb
  have hc : ∀ j, w.cell? ⟨b, j, none⟩ = (#[Value.int .u64 S.now, v])[j]? := fun j => cell_of_row w b j _ _ _ h3.2
  obtain ⟨G1, G2, k1, k2, k3, k4⟩ := h4
  obtain ⟨a, c, e⟩ : ∃ a c, v = .slice a S.ds.length c := by
    rcases k3.2.1 with ⟨h, a, c, rfl⟩ | ⟨_, b, o, c, rfl, _⟩
    · exact ⟨a, c, by rw [h]; rfl⟩
    · exact ⟨_, _, rfl⟩
  refine ⟨hc 0, a, c, ?_⟩
  rw [hc 1, e]
  rfl
end
end Go.Proofs.Ythncogpkhaheeaa.src
