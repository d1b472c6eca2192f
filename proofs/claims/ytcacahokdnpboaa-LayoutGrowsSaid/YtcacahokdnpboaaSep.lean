/- Things that lie apart in memory: a list of things, each with blocks of its own; a call changes one, and leaves the others. Nothing here speaks of the program. -/
import Derived.Test.YtcacahokdnpboaaFrame
namespace Go.Proofs.Ytcacahokdnpboaa.sep
open Go.ChangeShapes Go.WideShapes Go.ChangeAt Go.RowKit frame
set_option linter.unusedVariables false

/-- A thing: what it says of the world, given its blocks; it hangs on its blocks alone. -/
structure Thing where
  holds : (Nat → Prop) → World → Prop
  stays : ∀ {F : Nat → Prop} {w w' : World}, holds F w → (∀ k, F k → w'.heap[k]? = w.heap[k]?) → holds F w'
  lt : ∀ {F : Nat → Prop} {w : World}, holds F w → ∀ k, F k → k < w.heap.size
/-- The things of a list, each apart from the others, all in F. -/
def Apart : List Thing → (Nat → Prop) → World → Prop
  | [], F, _ => ∀ k, ¬ F k
  | A :: L, F, w => ∃ F1 F2, (∀ k, F k ↔ F1 k ∨ F2 k) ∧ (∀ k, F1 k → ¬ F2 k) ∧ A.holds F1 w ∧ Apart L F2 w
/-- A call that began in W has these things, and left all else of W as it was. -/
def Here (W : World) (L : List Thing) (w : World) : Prop := Below W.heap.size W w ∧ ∃ F, Apart L F w ∧ ∀ k, F k → W.heap.size ≤ k

theorem Apart.stays : ∀ {L : List Thing} {F : Nat → Prop} {w w' : World}, Apart L F w → (∀ k, F k → w'.heap[k]? = w.heap[k]?) → Apart L F w'
  | [], _, _, _, h, _ => h
  | A :: L, F, w, w', ⟨F1, F2, h1, h2, h3, h4⟩, hs => ⟨F1, F2, h1, h2, A.stays h3 (fun k hk => hs k ((h1 k).2 (.inl hk))), Apart.stays h4 (fun k hk => hs k ((h1 k).2 (.inr hk)))⟩
theorem Apart.lt : ∀ {L : List Thing} {F : Nat → Prop} {w : World}, Apart L F w → ∀ k, F k → k < w.heap.size
  | [], _, _, h, k, hk => (h k hk).elim
  | A :: L, F, w, ⟨F1, F2, h1, h2, h3, h4⟩, k, hk => by
    rcases (h1 k).1 hk with h | h
    · exact A.lt h3 k h
    · exact Apart.lt h4 k h
theorem Apart.swap {A B : Thing} {L : List Thing} {F : Nat → Prop} {w : World} (h : Apart (A :: B :: L) F w) : Apart (B :: A :: L) F w := by
  obtain ⟨F1, F2, h1, h2, h3, G1, G2, k1, k2, k3, k4⟩ := h
  refine ⟨G1, fun k => F1 k ∨ G2 k, fun k => ?_, fun k hk hn => ?_, k3, F1, G2, fun k => Iff.rfl, fun k hk hn => h2 k hk ((k1 k).2 (.inr hn)), h3, k4⟩
  · rw [h1 k, k1 k]
    constructor <;> intro h <;> rcases h with h | h | h <;> simp [h]
  · rcases hn with hn | hn
    · exact h2 k hn ((k1 k).2 (.inl hk))
    · exact k2 k hk hn
theorem Apart.perm {L L' : List Thing} (hp : L.Perm L') : ∀ {F : Nat → Prop} {w : World}, Apart L F w → Apart L' F w := by
  induction hp with
  | nil => exact fun h => h
  | cons A _ ih => exact fun ⟨F1, F2, h1, h2, h3, h4⟩ => ⟨F1, F2, h1, h2, h3, ih h4⟩
  | swap A B L => exact fun h => Apart.swap h
  | trans _ _ ih1 ih2 => exact fun h => ih2 (ih1 h)
theorem Apart.tail {A : Thing} {L : List Thing} {F : Nat → Prop} {w : World} (h : Apart (A :: L) F w) : ∃ G, (∀ k, G k → F k) ∧ Apart L G w := by
  obtain ⟨F1, F2, h1, h2, h3, h4⟩ := h
  exact ⟨F2, fun k hk => (h1 k).2 (.inr hk), h4⟩
theorem Apart.get {L : List Thing} : ∀ {F : Nat → Prop} {w : World}, Apart L F w → ∀ A ∈ L, ∃ G, (∀ k, G k → F k) ∧ A.holds G w := by
  induction L with
  | nil => intro _ _ _ A hA; cases hA
  | cons B L ih =>
    intro F w ⟨F1, F2, h1, h2, h3, h4⟩ A hA
    rcases List.mem_cons.1 hA with rfl | hA
    · exact ⟨F1, fun k hk => (h1 k).2 (.inl hk), h3⟩
    · obtain ⟨G, hG, hh⟩ := ih h4 A hA
      exact ⟨G, fun k hk => (h1 k).2 (.inr (hG k hk)), hh⟩

section
variable {W w w' : World} {A A' : Thing} {L : List Thing}
theorem Here.start (W : World) : Here W [] W := ⟨Below.refl _ _, fun _ => False, fun _ h => h, fun _ h => h.elim⟩
theorem Here.of_below (h : Below W.heap.size W w) : Here W [] w := ⟨h, fun _ => False, fun _ h => h, fun _ h => h.elim⟩
theorem Here.below (h : Here W L w) : Below W.heap.size W w := h.1
theorem Here.perm {L' : List Thing} (h : Here W L w) (hp : L.Perm L') : Here W L' w := by
  obtain ⟨hb, F, ha, hF⟩ := h
  exact ⟨hb, F, ha.perm hp, hF⟩
theorem Here.swap {B : Thing} (h : Here W (A :: B :: L) w) : Here W (B :: A :: L) w := h.perm (.swap _ _ _)
/-- One from behind to the front. -/
theorem Here.third {B C : Thing} (h : Here W (A :: B :: C :: L) w) : Here W (C :: A :: B :: L) w := h.perm ((List.Perm.cons A (.swap _ _ _)).trans (.swap _ _ _))
theorem Here.unthird {B C : Thing} (h : Here W (C :: A :: B :: L) w) : Here W (A :: B :: C :: L) w := h.perm ((List.Perm.swap _ _ _).trans (List.Perm.cons A (.swap _ _ _)))
theorem Here.drop (h : Here W (A :: L) w) : Here W L w := by
  obtain ⟨hb, F, ha, hF⟩ := h
  obtain ⟨G, hG, h2⟩ := ha.tail
  exact ⟨hb, G, h2, fun k hk => hF k (hG k hk)⟩
/-- Nothing old was changed: all things are there yet. -/
theorem Here.on (h : Here W L w) (hb : Below w.heap.size w w') : Here W L w' := by
  obtain ⟨h0, F, ha, hF⟩ := h
  exact ⟨h0.trans (hb.mono h0.size), F, ha.stays (fun k hk => hb.block k (ha.lt k hk)), hF⟩
theorem Here.drew (h : Here W L w) : Here W L w.drew := h.on (Below.refl _ _).drew
theorem Here.alloc (h : Here W L w) (o : Obj) : Here W L (w.alloc o) := h.on ((Below.refl _ _).alloc (Nat.le_refl _) _)
/-- A new thing, made of new blocks. -/
theorem Here.new {F : Nat → Prop} (h : Here W L w) (hb : Below w.heap.size w w') (hA : A.holds F w') (hF : ∀ k, F k → w.heap.size ≤ k) : Here W (A :: L) w' := by
  obtain ⟨h0, G, ha, hG⟩ := h
  refine ⟨h0.trans (hb.mono h0.size), fun k => F k ∨ G k, ⟨F, G, fun k => Iff.rfl, fun k hk hn => ?_, hA, ha.stays (fun k hk => hb.block k (ha.lt k hk))⟩, fun k hk => ?_⟩
  · have := ha.lt k hn
    have := hF k hk
    omega
  · rcases hk with hk | hk
    · exact Nat.le_trans h0.size (hF k hk)
    · exact hG k hk
/-- The first thing is changed, and nothing else. -/
theorem Here.step (h : Here W (A :: L) w) (hs : ∀ F, A.holds F w → A'.holds (Gr F w w') w' ∧ Chg F w w') : Here W (A' :: L) w' := by
  obtain ⟨h0, F, ⟨F1, F2, h1, h2, h3, h4⟩, hF⟩ := h
  obtain ⟨hA, hc⟩ := hs F1 h3
  refine ⟨hc.below h0 (fun k hk => hF k ((h1 k).2 (.inl hk))) h0.size, fun k => Gr F1 w w' k ∨ F2 k, ⟨Gr F1 w w', F2, fun k => Iff.rfl, fun k hk hn => ?_, hA, h4.stays (fun k hk => hc.block k (h4.lt k hk) (fun hn => h2 k hn hk))⟩, fun k hk => ?_⟩
  · rcases hk with hk | hk
    · exact h2 k hk hn
    · have := h4.lt k hn
      omega
  · rcases hk with (hk | hk) | hk
    · exact hF k ((h1 k).2 (.inl hk))
    · exact Nat.le_trans h0.size hk.1
    · exact hF k ((h1 k).2 (.inr hk))
theorem Here.get (h : Here W L w) (A : Thing) (hA : A ∈ L) : ∃ F, A.holds F w ∧ ∀ k, F k → W.heap.size ≤ k := by
  obtain ⟨_, F, ha, hF⟩ := h
  obtain ⟨G, hG, hh⟩ := ha.get A hA
  exact ⟨G, hh, fun k hk => hF k (hG k hk)⟩
/-- A call that changes the first thing. -/
theorem Here.call {P : Program} {f : FuncId} {args : Array Value} {v : Value} (h : Here W (A :: L) w)
    (hs : ∀ F, A.holds F w → Calls P f args w fun e w' => e = .returned v ∧ A'.holds (Gr F w w') w' ∧ Chg F w w') : Calls P f args w fun e w' => e = .returned v ∧ Here W (A' :: L) w' := by
  obtain ⟨h0, F, ⟨F1, F2, h1, h2, h3, h4⟩, hF⟩ := h
  refine (hs F1 h3).mono fun e w' ⟨he, hA, hc⟩ => ⟨he, ?_⟩
  refine ⟨hc.below h0 (fun k hk => hF k ((h1 k).2 (.inl hk))) h0.size, fun k => Gr F1 w w' k ∨ F2 k, ⟨Gr F1 w w', F2, fun k => Iff.rfl, fun k hk hn => ?_, hA, h4.stays (fun k hk => hc.block k (h4.lt k hk) (fun hn => h2 k hn hk))⟩, fun k hk => ?_⟩
  · rcases hk with hk | hk
    · exact h2 k hk hn
    · have := h4.lt k hn
      omega
  · rcases hk with (hk | hk) | hk
    · exact hF k ((h1 k).2 (.inl hk))
    · exact Nat.le_trans h0.size hk.1
    · exact hF k ((h1 k).2 (.inr hk))
/-- The same for the second thing. -/
theorem Here.call2 {P : Program} {f : FuncId} {args : Array Value} {v : Value} {B : Thing} (h : Here W (B :: A :: L) w)
    (hs : ∀ F, A.holds F w → Calls P f args w fun e w' => e = .returned v ∧ A'.holds (Gr F w w') w' ∧ Chg F w w') : Calls P f args w fun e w' => e = .returned v ∧ Here W (B :: A' :: L) w' :=
  (h.swap.call hs).mono fun _ _ ⟨he, hh⟩ => ⟨he, hh.swap⟩
/-- A call that changes nothing old. -/
theorem Here.quiet {P : Program} {f : FuncId} {args : Array Value} {v : Value} (h : Here W L w)
    (hs : Calls P f args w fun e w' => e = .returned v ∧ Below w.heap.size w w') : Calls P f args w fun e w' => e = .returned v ∧ Here W L w' :=
  hs.mono fun _ _ ⟨he, hb⟩ => ⟨he, h.on hb⟩
end

/-- A block that is known whole. -/
def blk (b : Nat) (o : Obj) : Thing where
  holds F w := (∀ k, F k ↔ k = b) ∧ w.heap[b]? = some o
  stays := fun ⟨h1, h2⟩ hs => ⟨h1, (hs _ ((h1 _).2 rfl)).trans h2⟩
  lt := fun ⟨h1, h2⟩ k hk => by rw [(h1 k).1 hk]; exact lt_of_block h2
theorem Here.block {W w : World} {L : List Thing} {b : Nat} {o : Obj} (h : Here W L w) (hA : blk b o ∈ L) : w.heap[b]? = some o := by
  obtain ⟨F, hh, _⟩ := h.get _ hA
  exact hh.2
theorem Here.newBlk {W w : World} {L : List Thing} (h : Here W L w) (o : Obj) : Here W (blk w.heap.size o :: L) (w.alloc o) :=
  h.new (F := fun k => k = w.heap.size) ((Below.refl _ _).alloc (Nat.le_refl _) _) ⟨fun _ => Iff.rfl, heap_alloc_new w o⟩ (fun k hk => by omega)
theorem Here.setBlk {W w : World} {L : List Thing} {b : Nat} {cs : Array Value} {t : TypeId} (h : Here W (blk b (.cells cs t (0, 0)) :: L) w) (j : Nat) (v : Value) : Here W (blk b (.cells (cs.setIfInBounds j v) t (0, 0)) :: L) (w.setCell ⟨b, j, none⟩ v) :=
  h.step fun F ⟨h1, h2⟩ => ⟨⟨fun k => by
    have := lt_of_block h2
    unfold Gr
    simp only [World.size_setCell]
    rw [h1 k]
    omega, heap_setCell_same w b j cs t v h2⟩, (Chg.refl _ _).setCell (.inl ((h1 b).2 rfl)) v⟩
/-- A slice of the call's own: n elements of type e, their cells xs. -/
def row (e : TypeId) (size : Nat) (v : Value) (n : Nat) (xs : List Value) : Thing where
  holds F w := (∀ k, F k → k < w.heap.size) ∧ RowOf w F e size v n xs
  stays := fun {F w w'} ⟨h1, h2⟩ hs => by
    have hl : ∀ k, F k → k < w'.heap.size := fun k hk => by
      have h := hs k hk
      rw [Array.getElem?_eq_getElem (h1 k hk)] at h
      exact (Array.getElem?_eq_some_iff.1 h).1
    refine ⟨hl, ⟨h2.1.1, ?_⟩, h2.2⟩
    rcases h2.1.2 with h3 | ⟨g, cap, cur, rfl, hb, hg, r⟩
    · exact .inl h3
    · exact .inr ⟨g, cap, cur, rfl, hb, (hs g (h2.2 g rfl)).trans hg, r⟩
  lt := fun h => h.1
/-- A struct of two slices. -/
def two (b : Nat) (T e1 e2 : TypeId) (s2 : Nat) (l1 : List Value) (n2 : Nat) (l2 : List Value) : Thing where
  holds F w := Two w F b T e1 e2 s2 l1 n2 l2
  stays := fun {F w w'} ⟨v1, v2, h⟩ hs => by
    have hl : ∀ k, F k → k < w'.heap.size := fun k hk => by
      have h' := hs k hk
      rw [Array.getElem?_eq_getElem (h.lt k hk)] at h'
      exact (Array.getElem?_eq_some_iff.1 h').1
    have hr : ∀ {e size v n xs}, RowOf w F e size v n xs → RowOf w' F e size v n xs := fun {e size v n xs} h2 => by
      refine ⟨⟨h2.1.1, ?_⟩, h2.2⟩
      rcases h2.1.2 with h3 | ⟨g, cap, cur, rfl, hb, hg, r⟩
      · exact .inl h3
      · exact .inr ⟨g, cap, cur, rfl, hb, (hs g (h2.2 g rfl)).trans hg, r⟩
    exact ⟨v1, v2, hl, h.self, (hs b h.self).trans h.blk, hr h.r1, hr h.r2⟩
  lt := fun ⟨_, _, h⟩ => h.lt
end Go.Proofs.Ytcacahokdnpboaa.sep
