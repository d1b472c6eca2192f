/- Chapter 6, on: the fresh words' own lists. Plain mathematics (over this seat's texts). -/
import Derived.Test.YtcacahokdnpboaaLayE
namespace Go.Proofs.Ytcacahokdnpboaa.ly
open lift
set_option linter.unusedVariables false
theorem wf_u64 {n : Int} (h0 : 0 ≤ n) (h1 : n ≤ 18446744073709551615) : (Lit.int .u64 n).wf = true := by
  simp [Lit.wf, IntKind.min, IntKind.max, IntKind.signed, IntKind.bits]
  omega
theorem wf_u32 {n : Int} (h0 : 0 ≤ n) (h1 : n ≤ 4294967295) : (Lit.int .u32 n).wf = true := by
  simp [Lit.wf, IntKind.min, IntKind.max, IntKind.signed, IntKind.bits]
  omega
theorem fresh_nth {c : Cf} {p : Nat} (h : (p : Int) < cellsN c) : nth (freshL c) p = freshF c p := by
  unfold freshL
  exact nth_range_map _ _ _ (by omega)
theorem freshF_bd {c : Cf} (hok : Ok c) (ht : TagOk c) (p : Nat) : 0 ≤ freshF c p ∧ freshF c p ≤ 18446744073709551615 := by
  obtain ⟨t0, t1⟩ := ht
  obtain ⟨b1, b2, _⟩ := hok
  unfold freshF wordP
  repeat' split
  all_goals omega
theorem fresh_fit {c : Cf} (hok : Ok c) (ht : TagOk c) : Fit .u64 (freshL c) := fun x hx => by
  unfold freshL at hx
  obtain ⟨p, _, rfl⟩ := List.mem_map.1 hx
  obtain ⟨h1, h2⟩ := freshF_bd hok ht p
  exact wf_u64 h1 h2
theorem cells_ok {c : Cf} (hok : Ok c) : cellsN c = 2 + 2 * c.nodes + c.slots + c.holders := by simp [cellsN, hok]
/-- The last d nodes, in their order. -/
def lastL (n : Int) (d : Nat) : List Int := (List.range d).map fun j : Nat => n - d + 1 + (j : Int)
theorem lastL_succ (n : Int) (d : Nat) : lastL n (d + 1) = (n - d) :: lastL n d := by
  unfold lastL
  rw [List.range_succ_eq_map, List.map_cons, List.map_map]
  congr 1
  · push_cast; omega
  · apply List.map_congr_left
    intro j _
    simp
    omega
theorem fresh_nx {c : Cf} (hok : Ok c) {i : Int} (h1 : 1 ≤ i) (h2 : i ≤ c.nodes) : nx (freshL c) i = if i = c.nodes then 0 else i + 1 := by
  obtain ⟨k, rfl⟩ : ∃ k : Nat, i = k + 1 := ⟨(i - 1).toNat, by omega⟩
  have hc := cells_ok hok
  obtain ⟨b1, b2, b3, b4, b5, b6⟩ := hok
  unfold nx
  have e : (2 * ((k : Int) + 1)).toNat = 2 + 2 * k := by omega
  rw [e, fresh_nth (by push_cast; omega), (fresh_node k (by omega)).1]
  by_cases h : (k : Int) + 1 = c.nodes
  · rw [if_pos h, if_pos h]
    rfl
  · rw [if_neg h, if_neg h]
    omega
theorem fresh_lst {c : Cf} (hok : Ok c) : ∀ d : Nat, (d : Int) ≤ c.nodes → Lst c.nodes (freshL c) (if d = 0 then 0 else c.nodes - d + 1) (lastL c.nodes d)
  | 0, _ => by simpa [lastL] using (Lst.nil (n := c.nodes) (ws := freshL c))
  | d + 1, h => by
    rw [if_neg (by omega), lastL_succ]
    have e : c.nodes - ((d + 1 : Nat) : Int) + 1 = c.nodes - d := by push_cast; omega
    rw [e]
    refine .cons (by omega) (by omega) ?_
    rw [fresh_nx hok (by omega) (by omega)]
    have ih := fresh_lst hok d (by omega)
    by_cases h0 : d = 0
    · subst h0
      rw [if_pos (by simp)]
      exact ih
    · rw [if_neg (by omega)]
      rw [if_neg h0] at ih
      exact ih
theorem fresh_free {c : Cf} (hok : Ok c) (ht : TagOk c) : chainL c (freshL c) (nth (freshL c) 1) = some (lastL c.nodes c.nodes.toNat) := by
  have hc := cells_ok hok
  have hb := hok
  obtain ⟨b1, b2, b3, b4, b5, b6⟩ := hb
  obtain ⟨t0, t1⟩ := ht
  rw [chain_iff hok (fresh_len c), fresh_nth (by omega)]
  have e : freshF c 1 % 4294967296 = 1 := by
    show wordP 1 c.tag % 4294967296 = 1
    unfold wordP
    omega
  rw [e]
  have := fresh_lst hok c.nodes.toNat (by omega)
  rw [if_neg (by omega)] at this
  have e2 : c.nodes - ((c.nodes.toNat : Nat) : Int) + 1 = 1 := by omega
  rwa [e2] at this
theorem fresh_head {c : Cf} (hok : Ok c) (ht : TagOk c) : chainL c (freshL c) (nth (freshL c) 0) = some [] := by
  have hc := cells_ok hok
  have hb := hok
  obtain ⟨b1, b2, b3, b4, b5, b6⟩ := hb
  obtain ⟨t0, t1⟩ := ht
  rw [chain_iff hok (fresh_len c), fresh_nth (by omega)]
  have e : freshF c 0 % 4294967296 = 0 := by
    show wordP 0 c.tag % 4294967296 = 0
    unfold wordP
    omega
  rw [e]
  exact .nil
theorem fresh_stack {c : Cf} (hok : Ok c) (ht : TagOk c) : stackL c (freshL c) = some [] := by
  unfold stackL
  rw [fresh_head hok ht]
  rfl
theorem lastL_len (n : Int) (d : Nat) : (lastL n d).length = d := by simp [lastL]
theorem lastL_nth (n : Int) (hn : 0 ≤ n) (k : Nat) (hk : (k : Int) < n) : nth (lastL n n.toNat) k = k + 1 := by
  unfold lastL
  rw [nth_range_map _ _ _ (by omega)]
  omega
end Go.Proofs.Ytcacahokdnpboaa.ly
