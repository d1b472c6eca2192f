/- A slice of whole numbers that the call itself has made. Nothing here speaks of the program. -/
import Derived.Test.YtcacahokdnpboaaMid
import Derived.Deep.AppendLies
namespace Go.Proofs.Ytcacahokdnpboaa.own
open Go.ChangeShapes Go.WideShapes Go.ChangeAt Go.RowKit lift

/-- v is a slice of the call's own (its block from B on) that holds l. -/
def Own (W : World) (B : Nat) (e : TypeId) (k : IntKind) (v : Value) (l : List Int) : Prop := W.ownsRow B e 1 v l.length (l.map (Value.int k))

theorem Own.at_ {W : World} {B : Nat} {e : TypeId} {k : IntKind} {v : Value} {l : List Int} (h : Own W B e k v l) (hl : 0 < l.length) :
    ∃ g cap, v = .slice (some ⟨g, 0, none⟩) l.length cap ∧ B ≤ g ∧ g < W.heap.size ∧ l.length ≤ cap ∧ ∀ i, i < l.length → W.cell? ⟨g, i, none⟩ = some (.int k (nth l i)) := by
  obtain ⟨h1, h2 | ⟨g, cap, cur, hv, hg, hh, hn, hc, hs, ht⟩⟩ := h
  · omega
  · refine ⟨g, cap, hv, hg, (Array.getElem?_eq_some_iff.1 hh).1, hn, fun i hi => ?_⟩
    have h0 : W.ownsRow B e 1 v l.length (l.map (Value.int k)) := ⟨h1, .inr ⟨g, cap, cur, hv, hg, hh, hn, hc, hs, ht⟩⟩
    have := h0.cells (g := g) (by rw [hv]; rfl) i (.int k (nth l i)) (by simp [nth, List.getD, hi])
    rw [add_plain] at this
    simpa using this
theorem Own.below {W W' : World} {B : Nat} {e : TypeId} {k : IntKind} {v : Value} {l : List Int} (h : Own W B e k v l) (hb : Below W.heap.size W W') : Own W' B e k v l := by
  obtain ⟨h1, h2 | ⟨g, cap, cur, hv, hg, hh, hn, hc, hs, ht⟩⟩ := h
  · exact ⟨h1, .inl h2⟩
  · exact ⟨h1, .inr ⟨g, cap, cur, hv, hg, by rw [hb.block g (Array.getElem?_eq_some_iff.1 hh).1]; exact hh, hn, hc, hs, ht⟩⟩
theorem Own.one {W : World} {B : Nat} {e : TypeId} {k : IntKind} {n : Int} (hB : B ≤ W.heap.size) : Own (W.alloc (.cells #[.int k n] e)) B e k (.slice (some ⟨W.heap.size, 0, none⟩) 1 1) [n] :=
  ⟨by simp, .inr ⟨W.heap.size, 1, #[.int k n], rfl, hB, (MapKept.heap_alloc W _).1, by simp, by simp [maxLen], by simp, by simp⟩⟩

theorem Own.alloc {W : World} {B : Nat} {e : TypeId} {k : IntKind} {v : Value} {l : List Int} (h : Own W B e k v l) (o : Obj) : Own (W.alloc o) B e k v l := h.below ((Below.refl _ _).alloc (Nat.le_refl _) o)
theorem cell_new (W : World) (v : Value) (t : TypeId) : (W.alloc (.cells #[v] t)).cell? ⟨W.heap.size, 0, none⟩ = some v := by
  rw [World.cell?_alloc_at _ _ _ _ rfl]; rfl
/-- One more behind the last one. -/
theorem wpList_push {P : Program} (w : World) {ops : Array Oper} {rest : List Oper} {o : Oper} {a : Act} {Q : Exit → Act → World → Prop} (hgd : o.guard = none) (s x : Operand) (t : TypeId)
    (ho : o.op = .call { callee := .builtin .append, args := #[s, x], argTypes := #[t, t] })
    (B : Nat) (e : TypeId) (k : IntKind) (z : Value) (bytes : Nat) (ht : P.underlying t = some (.slice e)) (hinfo : (P.info? e).map (fun i => (i.zero, i.size, i.bytes)) = some (some z, 1, bytes)) (hzs : z.cells.size = 1)
    (v : Value) (l : List Int) (n : Int) (hs : a.eval s = v) (hown : Own w B e k v l) (ad : Addr) (c : Nat) (hx : a.eval x = .slice (some ad) 1 c) (hn : w.cell? ad = some (.int k n))
    (hlen : l.length ≤ 1099511627776) (hby : bytes ≤ 64) (hB : B ≤ w.heap.size)
    (h : ∀ v' w', Own w' B e k v' (l ++ [n]) → w.grownBy w' v.ownBlock → wpList P ops Q rest (a.put o.dst v') w') : wpList P ops Q (o :: rest) a w := by
  obtain ⟨i, hi, hz0, hz1, hz2⟩ := info_parts hinfo
  refine wpList_append_own w hgd s x t ho B e i z 1 bytes ht hi hz0 hz1 hz2 hzs (by decide) v l.length (l.map (Value.int k)) hs hown ad 1 c [.int k n] hx rfl ?_ ?_ ?_ ?_ hB ?_
  · intro j u hj
    match j, hj with
    | 0, hj =>
      simp at hj
      subst hj
      have e0 : ad.add 0 = ad := by simp [Addr.add]
      rw [e0]
      exact hn
  · intro u hu
    simp at hu
    subst hu
    rfl
  · simp only [maxLen]; omega
  · have : (l.length + 1) * bytes ≤ (l.length + 1) * 64 := Nat.mul_le_mul_left _ hby
    omega
  · intro v' w' h1 h2 _
    exact h v' w' (by simpa [Own] using h1) h2
theorem below_grown {W0 w w' : World} {v : Value} {B : Nat} {e : TypeId} {k : IntKind} {l : List Int} (h : Below W0.heap.size W0 w) (hg : w.grownBy w' v.ownBlock) (hown : Own w B e k v l) (hB : W0.heap.size ≤ B) : Below W0.heap.size W0 w' :=
  h.grown hg h.size (fun g hgv => Nat.le_trans hB (World.ownsRow.lt hown g hgv).1)
end Go.Proofs.Ytcacahokdnpboaa.own
