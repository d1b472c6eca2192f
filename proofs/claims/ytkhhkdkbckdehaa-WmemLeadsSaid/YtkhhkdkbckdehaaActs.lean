/- The law's parameter 'acts', opened; over this seat's program. -/
import Derived.Test.YtkhhkdkbckdehaaStructs
import Derived.Test.YtkhhkdkbckdehaaLawKit
namespace Go.Proofs.Ytkhhkdkbckdehaa.wm
open Go.ChangeShapes Go.WideShapes Go.ChangeAt Go.RowKit frame lift sep
set_option linter.unusedVariables false
def actKinds : List FK := [.int .i64, .int .i64, .int .i64, .int .u64, .int .u64]
/-- A slice of acts. -/
def Acts (W : World) (v : Value) (l : List ActD) : Prop :=
  (l = [] ∧ ∃ (a : Option Addr) (cap : Nat), v = .slice a 0 cap) ∨
  (0 < l.length ∧ ∃ (b off cap : Nat), v = .slice (some ⟨b, off, none⟩) l.length cap ∧ l.length ≤ cap ∧ cap ≤ maxLen ∧ b < W.heap.size ∧
    ∀ (i : Nat) (h : i < l.length), W.cell? ⟨b, off + i * 5, none⟩ = some (.int .i64 l[i].op) ∧ W.cell? ⟨b, off + i * 5 + 1, none⟩ = some (.int .i64 l[i].at_) ∧ W.cell? ⟨b, off + i * 5 + 2, none⟩ = some (.int .i64 l[i].kind) ∧
      W.cell? ⟨b, off + i * 5 + 3, none⟩ = some (.int .u64 l[i].old) ∧ W.cell? ⟨b, off + i * 5 + 4, none⟩ = some (.int .u64 l[i].new))
def ActsOk (l : List ActD) : Prop := ∀ a ∈ l, ActOk a
theorem int_of {k : IntKind} {v : Value} (h : (FK.int k).ok v) : v = .int k (intOf v) ∧ (Lit.int k (intOf v)).wf = true := by
  obtain ⟨n, rfl, hw⟩ := h
  exact ⟨rfl, hw⟩
theorem open_acts {H : Type} {enc : TypeId × Value → H} {W : World} {v : Value} {d : DataW H} {p : List MemPlace} (hv : ∃ a len cap, v = .slice a len cap) (h : DataW.Trod enc Try.prog W 0 (fun _ => true) true 23 v d p) :
    ∃ l, Acts W v l ∧ ActsOk l := by
  obtain ⟨n, R, hS, hR⟩ := open_structs (fks := actKinds) Try.underlying23 Try.underlying35 (by kernel_rfl) (by kernel_rfl) rfl (by decide) (fun j f fk hj hk => by
    match j, hj, hk with
    | 0, hj, hk => simp at hj; simp [actKinds] at hk; subst hj; subst hk; exact Try.underlying3
    | 1, hj, hk => simp at hj; simp [actKinds] at hk; subst hj; subst hk; exact Try.underlying3
    | 2, hj, hk => simp at hj; simp [actKinds] at hk; subst hj; subst hk; exact Try.underlying3
    | 3, hj, hk => simp at hj; simp [actKinds] at hk; subst hj; subst hk; exact Try.underlying33
    | 4, hj, hk => simp at hj; simp [actKinds] at hk; subst hj; subst hk; exact Try.underlying33
    | j + 5, hj, hk => simp [actKinds] at hk) hv h
  let l : List ActD := (List.range n).map fun i => ⟨intOf (R i 0), intOf (R i 1), intOf (R i 2), intOf (R i 3), intOf (R i 4)⟩
  have hl : l.length = n := by simp [l]
  refine ⟨l, ?_, fun a ha => ?_⟩
  · rcases hS with ⟨rfl, a, cap, rfl⟩ | ⟨h0, b, off, cap, rfl, h1, h2, h3, h4⟩
    · exact .inl ⟨rfl, a, cap, rfl⟩
    · refine .inr ⟨by omega, b, off, cap, by rw [hl], by omega, h2, h3, fun i hi => ?_⟩
      have hin : i < n := by omega
      have e : l[i] = ⟨intOf (R i 0), intOf (R i 1), intOf (R i 2), intOf (R i 3), intOf (R i 4)⟩ := by simp [l]
      rw [e]
      have c (j : Nat) (hj : j < 5) : W.cell? ⟨b, off + i * 5 + j, none⟩ = some (R i j) := by
        rw [Nat.add_assoc]
        exact h4 i hin j hj
      refine ⟨?_, ?_, ?_, ?_, ?_⟩
      · rw [← (int_of (hR i hin 0 _ rfl)).1]; exact c 0 (by decide)
      · rw [← (int_of (hR i hin 1 _ rfl)).1]; exact c 1 (by decide)
      · rw [← (int_of (hR i hin 2 _ rfl)).1]; exact c 2 (by decide)
      · rw [← (int_of (hR i hin 3 _ rfl)).1]; exact c 3 (by decide)
      · rw [← (int_of (hR i hin 4 _ rfl)).1]; exact c 4 (by decide)
  · simp only [l, List.mem_map, List.mem_range] at ha
    obtain ⟨i, hin, rfl⟩ := ha
    exact ⟨bd_i64 (int_of (hR i hin 0 _ rfl)).2, bd_i64 (int_of (hR i hin 1 _ rfl)).2, bd_i64 (int_of (hR i hin 2 _ rfl)).2⟩
theorem acts_form {W : World} {v : Value} {l : List ActD} (h : Acts W v l) : ∃ a cap, v = .slice a l.length cap := by
  rcases h with ⟨rfl, a, cap, rfl⟩ | ⟨h0, b, off, cap, rfl, _⟩
  · exact ⟨_, _, rfl⟩
  · exact ⟨_, _, rfl⟩
theorem acts_at {W wr : World} {aa : Option Addr} {n cap : Nat} {l : List ActD} (h : Acts W (.slice aa n cap) l) (hb : Below W.heap.size W wr) (i : Nat) (hi : i < l.length) :
    ∃ b off, aa = some ⟨b, off, none⟩ ∧ wr.cell? ⟨b, off + i * 5, none⟩ = some (.int .i64 l[i].op) ∧ wr.cell? ⟨b, off + i * 5 + 1, none⟩ = some (.int .i64 l[i].at_) ∧ wr.cell? ⟨b, off + i * 5 + 2, none⟩ = some (.int .i64 l[i].kind) ∧
      wr.cell? ⟨b, off + i * 5 + 3, none⟩ = some (.int .u64 l[i].old) ∧ wr.cell? ⟨b, off + i * 5 + 4, none⟩ = some (.int .u64 l[i].new) := by
  rcases h with ⟨rfl, _⟩ | ⟨_, b, off, cap', hv, _, _, hbl, hc⟩
  · simp at hi
  · simp only [Value.slice.injEq] at hv
    have e : ∀ j, wr.cell? ⟨b, j, none⟩ = W.cell? ⟨b, j, none⟩ := fun j => hb.cell (p := ⟨b, j, none⟩) hbl
    refine ⟨b, off, hv.1, ?_⟩
    rw [e, e, e, e, e]
    exact hc i hi
/-- The memory behind the first k acts. -/
def play (l : List Int) (acts : List ActD) : Nat → St
  | 0 => ⟨l, []⟩
  | k + 1 => doS (play l acts k) (acts.getD k ⟨0, 0, 0, 0, 0⟩)
theorem doS_len (S : St) (a : ActD) : (doS S a).ns.length ≤ S.ns.length + 1 ∧ (doS S a).ws.length = S.ws.length := by
  unfold doS
  split
  · unfold ldS
    cases inB S a.at_ <;> simp
  · split
    · unfold stS
      cases inB S a.at_ <;> simp
    · unfold swS
      cases inB S a.at_ <;> cases (at_ S a.at_ == oldOf S a) <;> simp
theorem play_len (l : List Int) (acts : List ActD) (k : Nat) : (play l acts k).ns.length ≤ k ∧ (play l acts k).ws.length = l.length := by
  induction k with
  | zero => simp [play]
  | succ k ih =>
    have := doS_len (play l acts k) (acts.getD k ⟨0, 0, 0, 0, 0⟩)
    simp only [play]
    omega
theorem play_succ (l : List Int) (acts : List ActD) (k : Nat) (h : k < acts.length) : doS (play l acts k) acts[k] = play l acts (k + 1) := by
  show _ = doS _ (acts.getD k _)
  simp [List.getD, h]
theorem accs_nil (w : World) (a : Option Addr) (c : Nat) (hc : c ≤ maxLen) : Accs w (.slice a 0 c) [] := ⟨a, c, rfl, Nat.zero_le _, hc, fun h => by simp at h⟩
theorem accs_drop {w : World} {F : Nat → Prop} {g n cap : Nat} {ns : List Acc} {e : TypeId} (h : RowOf w F e 5 (.slice (some ⟨g, 0, none⟩) n cap) ns.length (ns.flatMap enc5)) (k : Nat) (hk : k ≤ ns.length) (h0 : 0 < ns.length) :
    Accs w (.slice (some ⟨g, k * 5, none⟩) (ns.length - k) (cap - k)) (ns.drop k) := by
  obtain ⟨g', cap', hv, hg, hlt, hcap, hmax, hcell, hfr⟩ := h.at_ h0
  simp only [Value.slice.injEq, Option.some.injEq, Addr.mk.injEq, and_true] at hv
  obtain ⟨rfl, _, rfl⟩ := hv
  have hl : (ns.drop k).length = ns.length - k := List.length_drop ..
  refine ⟨_, _, by rw [hl], by omega, by omega, fun hp => ⟨g, k * 5, rfl, hlt, fun j hj => ?_⟩⟩
  rw [hl] at hj hp
  rw [hcell (k * 5 + j) (by omega)]
  have e : ns.flatMap enc5 = (ns.take k).flatMap enc5 ++ (ns.drop k).flatMap enc5 := by rw [← List.flatMap_append, List.take_append_drop]
  rw [e, List.getElem?_append_right (by rw [flat5_len, List.length_take]; omega), flat5_len, List.length_take, Nat.min_eq_left hk]
  congr 1
  omega
theorem Accs.below {w w' : World} {v : Value} {l : List Acc} (h : Accs w v l) (hb : Below w.heap.size w w') : Accs w' v l := by
  obtain ⟨a, cap, hv, h1, h2, h3⟩ := h
  refine ⟨a, cap, hv, h1, h2, fun hp => ?_⟩
  obtain ⟨g, o, ha, hg, hc⟩ := h3 hp
  exact ⟨g, o, ha, Nat.lt_of_lt_of_le hg hb.size, fun j hj => (hb.cell (p := ⟨g, o + j, none⟩) hg).trans (hc j hj)⟩
theorem doS_ns (S : St) (a : ActD) : ∃ x, (doS S a).ns = S.ns ++ x := by
  unfold doS
  split
  · unfold ldS
    cases inB S a.at_
    · exact ⟨[], by simp⟩
    · exact ⟨_, rfl⟩
  · split
    · unfold stS
      cases inB S a.at_
      · exact ⟨[], by simp⟩
      · exact ⟨_, rfl⟩
    · unfold swS
      cases inB S a.at_
      · exact ⟨[], by simp⟩
      · cases (at_ S a.at_ == oldOf S a) <;> exact ⟨_, rfl⟩
theorem play_mono (l : List Int) (acts : List ActD) {j k : Nat} (h : j ≤ k) : (play l acts j).ns.length ≤ (play l acts k).ns.length := by
  induction k with
  | zero => obtain rfl : j = 0 := by omega
            exact Nat.le_refl _
  | succ k ih =>
    by_cases e : j = k + 1
    · subst e; exact Nat.le_refl _
    · refine Nat.le_trans (ih (by omega)) ?_
      obtain ⟨x, hx⟩ := doS_ns (play l acts k) (acts.getD k ⟨0, 0, 0, 0, 0⟩)
      show _ ≤ (doS _ _).ns.length
      rw [hx, List.length_append]
      omega
theorem acc_open {w : World} {a : Option Addr} {n cap : Nat} {l : List Acc} (h : Accs w (.slice a n cap) l) :
    n = l.length ∧ (0 < l.length → ∃ g o, a = some ⟨g, o, none⟩ ∧ g < w.heap.size ∧ ∀ j, j < l.length * 5 → w.cell? ⟨g, o + j, none⟩ = (l.flatMap enc5)[j]?) := by
  obtain ⟨a', cap', hv, _, _, h3⟩ := h
  simp only [Value.slice.injEq] at hv
  obtain ⟨rfl, rfl, rfl⟩ := hv
  exact ⟨rfl, h3⟩
end Go.Proofs.Ytkhhkdkbckdehaa.wm
