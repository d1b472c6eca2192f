/- append(own, x): a slice of the call's own, one more behind it; the slice ahead of that stays readable, and its own. Nothing here speaks of the program. -/
import Derived.Test.YtcacahokdnpboaaJoin
namespace Go.Proofs.Ytcacahokdnpboaa.join
open Go.ChangeShapes Go.WideShapes Go.ChangeAt Go.RowKit lift own sep frame
set_option linter.unusedVariables false
/-- The first of them. -/
theorem _root_.Go.Proofs.Ytcacahokdnpboaa.own.Own.front {W : World} {B : Nat} {e : TypeId} {k : IntKind} {a : Option Addr} {n cap : Nat} {l m : List Int} (h : Own W B e k (.slice a n cap) (l ++ m)) : Own W B e k (.slice a l.length cap) l := by
  rcases h.2 with ⟨h1, h2⟩ | ⟨g, c, cur, hv, hg, hh, hn, hc, hs, ht⟩
  · have hl : l = [] := List.eq_nil_of_length_eq_zero (by simp at h2; simp [h2])
    simp only [Value.slice.injEq] at h1
    obtain ⟨rfl, _, rfl⟩ := h1
    subst hl
    exact ⟨by simp, .inl ⟨rfl, rfl⟩⟩
  · simp only [Value.slice.injEq] at hv
    obtain ⟨rfl, _, rfl⟩ := hv
    refine ⟨by simp, .inr ⟨g, cap, cur, rfl, hg, hh, by simp at hn; omega, hc, hs, ?_⟩⟩
    have := congrArg (List.take (l.length * 1)) ht
    rw [List.take_take] at this
    simpa using this
theorem grown_refl (w : World) (row : Option Nat) : w.grownBy w row := ⟨rfl, rfl, rfl, Nat.le_refl _, fun _ _ _ => rfl⟩
theorem grown_drewN (w : World) (n : Nat) (row : Option Nat) : w.grownBy (w.drewN n) row := ⟨rfl, rfl, rfl, Nat.le_refl _, fun _ _ _ => rfl⟩
theorem grown_trans {a b c : World} {row : Option Nat} (h : a.grownBy b row) (k : b.grownBy c row) : a.grownBy c row :=
  ⟨k.os.trans h.os, k.tape.trans h.tape, k.output.trans h.output, Nat.le_trans h.size k.size, fun i hi hr => (k.block i (Nat.lt_of_lt_of_le hi h.size) hr).trans (h.block i hi hr)⟩
theorem grown_below {w w' : World} {B : Nat} {e : TypeId} {k : IntKind} {v : Value} {l : List Int} (h : w.grownBy w' v.ownBlock) (hown : Own w B e k v l) (hB : B ≤ w.heap.size) : Below B w w' :=
  (Below.refl B w).grown h hB (fun g hgv => (World.ownsRow.lt hown g hgv).1)
theorem grown_cell {w w' : World} {B : Nat} {e : TypeId} {k : IntKind} {v : Value} {l : List Int} (h : w.grownBy w' v.ownBlock) {b : Nat} (hb : b < w.heap.size) (hne : v.ownBlock ≠ some b) (j : Nat) : w'.cell? ⟨b, j, none⟩ = w.cell? ⟨b, j, none⟩ :=
  World.cell?_of_block (a := ⟨b, j, none⟩) (h.block b hb (fun e => hne e.symm))
theorem run_push_kept {P : Program} {w : World} (t ty : TypeId) (B : Nat) (e : TypeId) (k : IntKind) (z : Value) (bytes : Nat) (ht : P.underlying t = some (.slice e)) (hinfo : (P.info? e).map (fun i => (i.zero, i.size, i.bytes)) = some (some z, 1, bytes)) (hzs : z.cells.size = 1)
    (v : Value) (l : List Int) (n : Int) (hown : Own w B e k v l) (ad : Addr) (c : Nat) (hn : w.cell? ad = some (.int k n))
    (hlen : l.length ≤ 1099511627776) (hby : bytes ≤ 64) (hB : B ≤ w.heap.size) :
    ∃ v' w', (Builtin.append_ #[t, t] ty #[v, .slice (some ad) 1 c]).run P w = .ok v' w' ∧ Own w' B e k v' (l ++ [n]) ∧ Own w' B e k v l ∧ w.grownBy w' v.ownBlock := by
  obtain ⟨i, hi, hz0, hz1, hz2⟩ := info_parts hinfo
  have hnews : ∀ (j : Nat) (u : Value), [Value.int k n][j]? = some u → w.cell? (ad.add j) = some u := by
    intro j u hj
    match j, hj with
    | 0, hj =>
      simp at hj
      subst hj
      have e0 : ad.add 0 = ad := by simp [Addr.add]
      rw [e0]
      exact hn
  have h1 : ∀ u ∈ [Value.int k n], u.oneCell' = true := by
    intro u hu
    simp at hu
    subst hu
    rfl
  have hbb : (l.length + 1) * bytes ≤ (l.length + 1) * 64 := Nat.mul_le_mul_left _ hby
  obtain ⟨v', w', hr, h2, h3, _⟩ := run_append_own (P := P) w B t ty e i z 1 bytes ht hi hz0 hz1 hz2 hzs (by decide) v l.length (l.map (Value.int k)) hown ad 1 c [.int k n] rfl hnews h1 (by simp only [maxLen]; omega) (by omega) hB
  refine ⟨v', w', hr, by simpa [Own] using h2, ?_, ?_⟩
  · rcases hown.2 with ⟨rfl, hl0⟩ | ⟨g, cap, cur, rfl, hbg, hg, hnc, hcm, hcs, htake⟩
    · exact ⟨hown.1, .inl ⟨rfl, hl0⟩⟩
    · by_cases hroom : l.length + 1 ≤ cap
      · have hr2 := run_append_room (P := P) w t ty e i ht hi g l.length cap cur hg ad 1 c [.int k n] (by rw [hz1]; rfl) hnews h1 hroom (by simp only [hz1, List.length_cons, List.length_nil]; omega)
        rw [hr] at hr2
        injection hr2 with e1 e2
        subst e2
        refine ⟨hown.1, .inr ⟨g, cap, _, rfl, hbg, setRow_heap w g cur _ e _ hg, hnc, hcm, ?_, ?_⟩⟩
        · simp only [List.size_toArray, List.length_append, List.length_take, List.length_drop, Array.length_toList, List.length_cons, List.length_nil, hz1]
          omega
        · rw [← htake, hz1]
          have hcl : l.length ≤ cur.toList.length := by
            have h5 : cur.toList.length = cur.size := Array.length_toList
            rw [h5]
            omega
          simp only [Nat.mul_one]
          rw [List.append_assoc, List.take_append_of_le_length (by rw [List.length_take]; omega), List.take_take, Nat.min_self]
      · have holds := hown.cells (g := g) rfl
        have hr2 := run_append_grow (P := P) w t ty e i z ht hi hz0 ⟨g, 0, none⟩ l.length cap (l.map (Value.int k)) (by rw [hz1]; simp) holds ad 1 c [.int k n] (by rw [hz1]; rfl) hnews (by omega) (by omega) (growslice_fits (by omega) (by rw [hz2]; omega))
        rw [hr] at hr2
        injection hr2 with e1 e2
        subst e2
        exact hown.below ((Below.refl _ _).drew.alloc (Nat.le_refl _) _)
  · exact h3
theorem wp_push_kept {P : Program} (w : World) {o : Oper} {a : Act} {Q : Exit → Act → World → Prop} {K : Act → World → Prop} (s x : Operand) (t : TypeId)
    (ho : o.op = .call { callee := .builtin .append, args := #[s, x], argTypes := #[t, t] })
    (B : Nat) (e : TypeId) (k : IntKind) (z : Value) (bytes : Nat) (ht : P.underlying t = some (.slice e)) (hinfo : (P.info? e).map (fun i => (i.zero, i.size, i.bytes)) = some (some z, 1, bytes)) (hzs : z.cells.size = 1)
    (v : Value) (l : List Int) (n : Int) (hs : a.eval s = v) (hown : Own w B e k v l) (ad : Addr) (c : Nat) (hx : a.eval x = .slice (some ad) 1 c) (hn : w.cell? ad = some (.int k n))
    (hlen : l.length ≤ 1099511627776) (hby : bytes ≤ 64) (hB : B ≤ w.heap.size)
    (h : ∀ v' w', Own w' B e k v' (l ++ [n]) → Own w' B e k v l → w.grownBy w' v.ownBlock → K (a.put o.dst v') w') : o.wp P a w K Q := by
  obtain ⟨v', w', hr, h2, h3, h4⟩ := run_push_kept (P := P) t o.type B e k z bytes ht hinfo hzs v l n hown ad c hn hlen hby hB
  unfold Oper.wp execOp
  simp only [ho, resolve, invoke, builtin, Sem.run_bind, Sem.run_pure, Result.andThen_ok, List.map_toArray, List.map_cons, List.map_nil, hs, hx, hr]
  exact h v' w' h2 h3 h4
/-- One more behind the last one; what was ahead is kept. -/
theorem wpList_push_kept {P : Program} (w : World) {ops : Array Oper} {rest : List Oper} {o : Oper} {a : Act} {Q : Exit → Act → World → Prop} (hgd : o.guard = none) (s x : Operand) (t : TypeId)
    (ho : o.op = .call { callee := .builtin .append, args := #[s, x], argTypes := #[t, t] })
    (B : Nat) (e : TypeId) (k : IntKind) (z : Value) (bytes : Nat) (ht : P.underlying t = some (.slice e)) (hinfo : (P.info? e).map (fun i => (i.zero, i.size, i.bytes)) = some (some z, 1, bytes)) (hzs : z.cells.size = 1)
    (v : Value) (l : List Int) (n : Int) (hs : a.eval s = v) (hown : Own w B e k v l) (ad : Addr) (c : Nat) (hx : a.eval x = .slice (some ad) 1 c) (hn : w.cell? ad = some (.int k n))
    (hlen : l.length ≤ 1099511627776) (hby : bytes ≤ 64) (hB : B ≤ w.heap.size)
    (h : ∀ v' w', Own w' B e k v' (l ++ [n]) → Own w' B e k v l → w.grownBy w' v.ownBlock → wpList P ops Q rest (a.put o.dst v') w') : wpList P ops Q (o :: rest) a w :=
  wpList_plain hgd fun _ hK => wp_push_kept w s x t ho B e k z bytes ht hinfo hzs v l n hs hown ad c hx hn hlen hby hB fun v' w' h2 h3 h4 => hK _ _ (h v' w' h2 h3 h4)
end Go.Proofs.Ytcacahokdnpboaa.join
