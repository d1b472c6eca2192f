/- Chapter 6, on: nodes that are written one behind the other. Plain mathematics (over this seat's texts). -/
import Derived.Test.YtcacahokdnpboaaLayG
import Derived.Test.YtcacahokdnpboaaLayO
namespace Go.Proofs.Ytcacahokdnpboaa.ly
open lift
set_option linter.unusedVariables false
theorem nth_set_eq {l : List Int} {k : Nat} (v : Int) (h : k < l.length) : nth (l.set k v) k = v := by simp [nth, List.getD, h]
theorem nth_set_ne {l : List Int} {k j : Nat} (v : Int) (h : k ≠ j) : nth (l.set k v) j = nth l j := by simp [nth, List.getD, h]
theorem nodup_nth {L : List Int} (h : L.Nodup) {i j : Nat} (hi : i < L.length) (hj : j < L.length) (e : nth L i = nth L j) : i = j := by
  have ei : nth L i = L[i] := by simp [nth, List.getD, hi]
  have ej : nth L j = L[j] := by simp [nth, List.getD, hj]
  rw [ei, ej] at e
  rcases Nat.lt_trichotomy i j with h1 | h1 | h1
  · exact absurd e (List.pairwise_iff_getElem.1 h i j hi hj h1)
  · exact h1
  · exact absurd e.symm (List.pairwise_iff_getElem.1 h j i hj hi h1)
theorem fit_set {ws : List Int} (h : Fit .u64 ws) (m : Nat) {x : Int} (h0 : 0 ≤ x) (h1 : x ≤ 18446744073709551615) : Fit .u64 (ws.set m x) := fun y hy => by
  rcases List.mem_or_eq_of_mem_set hy with hy | rfl
  · exact h y hy
  · exact wf_u64 h0 h1
/-- The node behind number j of the list, 0 behind the last one. -/
def nextL (L : List Int) (j : Nat) : Int := if j + 1 < L.length then nth L (j + 1) else 0
structure Wr (c : Cf) (L : List Int) (i : Nat) (ws : List Int) : Prop where
  len : (ws.length : Int) = cellsN c
  fit : Fit .u64 ws
  nxt : ∀ j, j < i → nth ws (2 * nth L j).toNat % 4294967296 = nextL L j
  val : ∀ j, j < i → nth ws (2 * nth L j + 1).toNat = 1000 + j
structure Nodes (c : Cf) (L : List Int) : Prop where
  ok : Ok c
  nd : L.Nodup
  mem : ∀ x ∈ L, 1 ≤ x ∧ x ≤ c.nodes
theorem Nodes.at_ {c : Cf} {L : List Int} (h : Nodes c L) {j : Nat} (hj : j < L.length) : 1 ≤ nth L j ∧ nth L j ≤ c.nodes := h.mem _ (nth_mem hj)
theorem Nodes.len {c : Cf} {L : List Int} (h : Nodes c L) : L.length ≤ 64 := by
  obtain ⟨b1, b2, _⟩ := h.ok
  have := nodup_len c.nodes.toNat L h.nd (fun x hx => by have := h.mem x hx; omega)
  omega
theorem nextL_bd {c : Cf} {L : List Int} (h : Nodes c L) (j : Nat) : 0 ≤ nextL L j ∧ nextL L j ≤ 64 := by
  obtain ⟨b1, b2, _⟩ := h.ok
  unfold nextL
  split
  · rename_i hj
    have := h.at_ hj
    omega
  · omega
theorem Wr.next {c : Cf} {L : List Int} {i : Nat} {ws : List Int} (h : Wr c L i ws) (hN : Nodes c L) (hi : i < L.length) {t : Int} (t0 : 0 ≤ t) (t1 : t ≤ 4294967295) :
    Wr c L (i + 1) ((ws.set (2 * nth L i).toNat (wordP (nextL L i) t)).set (2 * nth L i + 1).toNat (1000 + i)) := by
  obtain ⟨n0, n1⟩ := nextL_bd hN i
  obtain ⟨x0, x1⟩ := hN.at_ hi
  have hL := hN.len
  have hc := cells_ok hN.ok
  obtain ⟨b1, b2, b3, b4, b5, b6⟩ := hN.ok
  have hl := h.len
  refine ⟨by simpa using hl, fit_set (fit_set h.fit _ (by unfold wordP; omega) (by unfold wordP; omega)) _ (by omega) (by omega), fun j hj => ?_, fun j hj => ?_⟩
  · obtain ⟨y0, y1⟩ := hN.at_ (show j < L.length by omega)
    rw [nth_set_ne _ (by omega)]
    by_cases hji : j = i
    · subst hji
      rw [nth_set_eq _ (by omega)]
      unfold wordP
      omega
    · have hne : nth L i ≠ nth L j := fun e => hji (nodup_nth hN.nd (by omega) hi e.symm)
      rw [nth_set_ne _ (by omega)]
      exact h.nxt j (by omega)
  · obtain ⟨y0, y1⟩ := hN.at_ (show j < L.length by omega)
    by_cases hji : j = i
    · subst hji
      rw [nth_set_eq _ (by simp; omega)]
    · have hne : nth L i ≠ nth L j := fun e => hji (nodup_nth hN.nd (by omega) hi e.symm)
      rw [nth_set_ne _ (by omega), nth_set_ne _ (by omega)]
      exact h.val j (by omega)
/-- The head's word is written. -/
theorem Wr.head {c : Cf} {L : List Int} {i : Nat} {ws : List Int} (h : Wr c L i ws) (hN : Nodes c L) (hi : i ≤ L.length) {x : Int} (h0 : 0 ≤ x) (h1 : x ≤ 18446744073709551615) : Wr c L i (ws.set 0 x) :=
  ⟨by simpa using h.len, fit_set h.fit _ h0 h1, fun j hj => by
    obtain ⟨y0, y1⟩ := hN.at_ (show j < L.length by omega)
    rw [nth_set_ne _ (by omega)]
    exact h.nxt j hj, fun j hj => by
    obtain ⟨y0, y1⟩ := hN.at_ (show j < L.length by omega)
    rw [nth_set_ne _ (by omega)]
    exact h.val j hj⟩
theorem drop_nth {L : List Int} {k : Nat} (h : k < L.length) : L.drop k = nth L k :: L.drop (k + 1) := by
  rw [List.drop_eq_getElem_cons h]
  simp [nth, List.getD, h]
theorem Wr.lst {c : Cf} {L : List Int} {ws : List Int} (h : Wr c L L.length ws) (hN : Nodes c L) : ∀ (d k : Nat), k + d = L.length → Lst c.nodes ws (if k < L.length then nth L k else 0) (L.drop k)
  | 0, k, hk => by
    rw [if_neg (by omega), List.drop_eq_nil_of_le (by omega)]
    exact .nil
  | d + 1, k, hk => by
    have hkl : k < L.length := by omega
    rw [if_pos hkl, drop_nth hkl]
    obtain ⟨x0, x1⟩ := hN.at_ hkl
    refine .cons x0 x1 ?_
    unfold nx
    rw [h.nxt k hkl]
    exact h.lst hN d (k + 1) (by omega)
theorem Wr.chain {c : Cf} {L : List Int} {ws : List Int} (h : Wr c L L.length ws) (hN : Nodes c L) {k : Nat} (hk : k < L.length) {x : Int} (hx : x % 4294967296 = nth L k) : chainL c ws x = some (L.drop k) := by
  rw [chain_iff hN.ok h.len, hx]
  have := h.lst hN (L.length - k) k (by omega)
  rwa [if_pos hk] at this
theorem Wr.stack {c : Cf} {L : List Int} {ws : List Int} (h : Wr c L L.length ws) (hN : Nodes c L) (h0 : 0 < L.length) (hx : nth ws 0 % 4294967296 = nth L 0) :
    ∃ V, stackL c ws = some V ∧ V.length = L.length ∧ ∀ i, i < L.length → nth V i = 1000 + ((L.length - 1 - i : Nat) : Int) := by
  refine ⟨L.reverse.map fun i => nth ws (2 * i + 1).toNat, ?_, by simp, fun i hi => ?_⟩
  · unfold stackL
    rw [h.chain hN h0 hx]
    rfl
  · have hj : L.length - 1 - i < L.length := by omega
    have e : nth (L.reverse.map fun i => nth ws (2 * i + 1).toNat) i = nth ws (2 * nth L (L.length - 1 - i) + 1).toNat := by
      simp [nth, List.getD, hi, hj]
    rw [e, h.val _ hj]
/-- One more link back makes none of it. -/
theorem Wr.back {c : Cf} {L : List Int} {ws : List Int} (h : Wr c L L.length ws) (hN : Nodes c L) {k : Nat} (hk : k < L.length) {x : Int} (hx : x % 4294967296 = nth L 0) :
    chainL c (ws.set (2 * nth L (L.length - 1)).toNat (nth L k)) x = none := by
  have hl : 0 < L.length := by omega
  obtain ⟨a0, a1⟩ := hN.at_ (show L.length - 1 < L.length by omega)
  obtain ⟨k0, k1⟩ := hN.at_ hk
  have hc := cells_ok hN.ok
  have hlen := h.len
  obtain ⟨b1, b2, b3, b4, b5, b6⟩ := hN.ok
  obtain ⟨ws', hws⟩ : ∃ ws', ws.set (2 * nth L (L.length - 1)).toNat (nth L k) = ws' := ⟨_, rfl⟩
  rw [hws]
  have hlen' : (ws'.length : Int) = cellsN c := by rw [← hws]; simpa using hlen
  have hstep : ∀ j, j + 1 < L.length → nx ws' (nth L j) = nth L (j + 1) := fun j hj => by
    have hne : nth L (L.length - 1) ≠ nth L j := fun e => by
      have := nodup_nth hN.nd (by omega) (by omega) e
      omega
    obtain ⟨y0, y1⟩ := hN.at_ (show j < L.length by omega)
    unfold nx
    rw [← hws, nth_set_ne _ (by omega), h.nxt j (by omega)]
    unfold nextL
    rw [if_pos hj]
  have hlast : nx ws' (nth L (L.length - 1)) = nth L k := by
    unfold nx
    rw [← hws, nth_set_eq _ (by omega)]
    omega
  have hcame : ∀ j, j < L.length → Came c.nodes ws' (nth L 0) (L.take j) (nth L j) := fun j => by
    induction j with
    | zero => intro _; exact .here
    | succ j ih =>
      intro hj
      have hj' : j < L.length := by omega
      obtain ⟨y0, y1⟩ := hN.at_ hj'
      have := (ih hj').next y0 y1 (fun hm => by
        obtain ⟨i, hi, e⟩ := mem_nth hm
        rw [List.length_take] at hi
        have e2 : nth (L.take j) i = nth L i := by simp [nth, List.getD, show i < j by omega]
        rw [e2] at e
        have := nodup_nth hN.nd (by omega) hj' e
        omega)
      rw [hstep j hj] at this
      rw [List.take_succ_eq_append_getElem hj']
      have e : nth L j = L[j] := by simp [nth, List.getD, hj']
      rwa [e] at this
  have hend : Came c.nodes ws' (nth L 0) L (nth L k) := by
    have h1 := hcame (L.length - 1) (by omega)
    have h2 := h1.next a0 a1 (fun hm => by
      obtain ⟨i, hi, e⟩ := mem_nth hm
      rw [List.length_take] at hi
      have e2 : nth (L.take (L.length - 1)) i = nth L i := by simp [nth, List.getD, show i < L.length - 1 by omega, show i < L.length by omega]
      rw [e2] at e
      have := nodup_nth hN.nd (by omega) (by omega) e
      omega)
    rw [hlast] at h2
    have e : L.take (L.length - 1) ++ [nth L (L.length - 1)] = L := by
      have h3 := List.take_succ_eq_append_getElem (l := L) (i := L.length - 1) (by omega)
      have e4 : L.length - 1 + 1 = L.length := by omega
      rw [e4, List.take_length] at h3
      have e5 : nth L (L.length - 1) = L[L.length - 1] := by simp [nth, List.getD, show L.length - 1 < L.length by omega]
      rw [e5]
      exact h3.symm
    rwa [e] at h2
  refine chain_none ⟨b1, b2, b3, b4, b5, b6⟩ hlen' fun m => ?_
  rw [hx]
  exact hend.again (nth_mem hk) m
end Go.Proofs.Ytcacahokdnpboaa.ly
