/- The frame for calls that are handed objects: Hold F0 W L w: the call that began in W, and may change the blocks of F0, has the things of L, apart from each other. Nothing here speaks of the program. -/
import Derived.Test.YtcacahokdnpboaaSep
import Derived.Test.YtcacahokdnpboaaLift
import Derived.Laws.CopyOwn
namespace Go.Proofs.Ytcacahokdnpboaa.sep
open Go.ChangeShapes Go.WideShapes Go.ChangeAt Go.RowKit frame
set_option linter.unusedVariables false

theorem Apart.split : ∀ {L M : List Thing} {F : Nat → Prop} {w : World}, Apart (L ++ M) F w → ∃ F1 F2, (∀ k, F k ↔ F1 k ∨ F2 k) ∧ (∀ k, F1 k → ¬ F2 k) ∧ Apart L F1 w ∧ Apart M F2 w
  | [], M, F, w, h => ⟨fun _ => False, F, fun k => by simp, fun _ h => h.elim, fun _ h => h, h⟩
  | A :: L, M, F, w, ⟨F1, F2, h1, h2, h3, h4⟩ => by
    obtain ⟨G1, G2, k1, k2, k3, k4⟩ := Apart.split h4
    refine ⟨fun k => F1 k ∨ G1 k, G2, fun k => ?_, fun k hk hn => ?_, ⟨F1, G1, fun k => Iff.rfl, fun k hk hn => h2 k hk ((k1 k).2 (.inl hn)), h3, k3⟩, k4⟩
    · rw [h1 k, k1 k, or_assoc]
    · rcases hk with hk | hk
      · exact h2 k hk ((k1 k).2 (.inr hn))
      · exact k2 k hk hn
theorem Apart.join : ∀ {L M : List Thing} {F1 F2 : Nat → Prop} {w : World}, (∀ k, F1 k → ¬ F2 k) → Apart L F1 w → Apart M F2 w → Apart (L ++ M) (fun k => F1 k ∨ F2 k) w
  | [], M, F1, F2, w, hd, h1, h2 => by
    have e : (fun k => F1 k ∨ F2 k) = F2 := funext fun k => propext ⟨fun h => h.elim (fun h => (h1 k h).elim) id, .inr⟩
    rw [e]
    exact h2
  | A :: L, M, F1, F2, w, hd, ⟨G1, G2, k1, k2, k3, k4⟩, h2 => by
    refine ⟨G1, fun k => G2 k ∨ F2 k, fun k => ?_, fun k hk hn => ?_, k3, Apart.join (fun k hk => hd k ((k1 k).2 (.inr hk))) k4 h2⟩
    · show F1 k ∨ F2 k ↔ G1 k ∨ (G2 k ∨ F2 k)
      rw [k1 k, or_assoc]
    · rcases hn with hn | hn
      · exact k2 k hk hn
      · exact hd k ((k1 k).2 (.inl hk)) hn
/-- A call that began in W, and may change the blocks of F0, has these things, apart from each other; all else of W is as it was. -/
def Hold (F0 : Nat → Prop) (W : World) (L : List Thing) (w : World) : Prop := Chg F0 W w ∧ ∃ F, Apart L F w ∧ ∀ k, F k → Gr F0 W w k
section
variable {F0 : Nat → Prop} {W w w' : World} {A B A' : Thing} {L L' M : List Thing}
theorem Hold.start (h : Apart L F0 W) : Hold F0 W L W := ⟨Chg.refl _ _, F0, h, fun k hk => .inl hk⟩
theorem Hold.empty (W : World) : Hold (fun _ => False) W [] W := ⟨Chg.refl _ _, fun _ => False, fun _ h => h, fun _ h => h.elim⟩
theorem Hold.perm (h : Hold F0 W L w) (hp : L.Perm L') : Hold F0 W L' w := by
  obtain ⟨hc, F, ha, hF⟩ := h
  exact ⟨hc, F, ha.perm hp, hF⟩
theorem Hold.swap (h : Hold F0 W (A :: B :: L) w) : Hold F0 W (B :: A :: L) w := h.perm (.swap _ _ _)
theorem Hold.drop (h : Hold F0 W (A :: L) w) : Hold F0 W L w := by
  obtain ⟨hc, F, ha, hF⟩ := h
  obtain ⟨G, hG, h2⟩ := ha.tail
  exact ⟨hc, G, h2, fun k hk => hF k (hG k hk)⟩
theorem Hold.chg (h : Hold F0 W L w) : Chg F0 W w := h.1
theorem Hold.below (h : Hold (fun _ => False) W L w) : Below W.heap.size W w := ⟨h.1.os, h.1.tape, h.1.output, h.1.size, fun k hk => h.1.block k hk (fun h => h)⟩
theorem Hold.get (h : Hold F0 W L w) (A : Thing) (hA : A ∈ L) : ∃ F, A.holds F w := by
  obtain ⟨_, F, ha, _⟩ := h
  obtain ⟨G, _, hh⟩ := ha.get A hA
  exact ⟨G, hh⟩
/-- THE FRAME: what is done with the things at the front is done with the others behind them. -/
theorem Hold.step (h : Hold F0 W (L ++ M) w) (hs : ∀ F, Apart L F w → Hold F w L' w') : Hold F0 W (L' ++ M) w' := by
  obtain ⟨hc, F, ha, hF⟩ := h
  obtain ⟨F1, F2, h1, h2, h3, h4⟩ := ha.split
  obtain ⟨kc, F', ka, kF⟩ := hs F1 h3
  have hgr : ∀ k, Gr F0 W w k → Gr F0 W w' k := fun k hk => by
    rcases hk with hk | hk
    · exact .inl hk
    · exact .inr ⟨hk.1, Nat.lt_of_lt_of_le hk.2 kc.size⟩
  refine ⟨hc.trans (kc.mono fun k _ hk => hF k ((h1 k).2 (.inl hk))), fun k => F' k ∨ F2 k, Apart.join (fun k hk hn => ?_) ka (h4.stays fun k hk => kc.block k (h4.lt k hk) (fun hn => h2 k hn hk)), fun k hk => ?_⟩
  · have hl := h4.lt k hn
    rcases kF k hk with hk | hk
    · exact h2 k hk hn
    · omega
  · rcases hk with hk | hk
    · rcases kF k hk with hk | hk
      · exact hgr k (hF k ((h1 k).2 (.inl hk)))
      · exact .inr ⟨Nat.le_trans hc.size hk.1, hk.2⟩
    · exact hgr k (hF k ((h1 k).2 (.inr hk)))
theorem Hold.step1 (h : Hold F0 W (A :: M) w) (hs : ∀ F, A.holds F w → Hold F w [A'] w') : Hold F0 W (A' :: M) w' := by
  refine Hold.step (L := [A]) (L' := [A']) h fun F ⟨F1, F2, h1, h2, h3, h4⟩ => ?_
  have e : F = F1 := funext fun k => propext ⟨fun hk => ((h1 k).1 hk).elim id (fun h => (h4 k h).elim), fun hk => (h1 k).2 (.inl hk)⟩
  rw [e]
  exact hs F1 h3
theorem Apart.one {F : Nat → Prop} (h : A.holds F w) : Apart [A] F w := ⟨F, fun _ => False, fun k => by simp, fun _ _ h => h, h, fun _ h => h⟩
theorem Apart.unone {F : Nat → Prop} (h : Apart [A] F w) : A.holds F w := by
  obtain ⟨F1, F2, h1, h2, h3, h4⟩ := h
  have e : F = F1 := funext fun k => propext ⟨fun hk => ((h1 k).1 hk).elim id (fun h => (h4 k h).elim), fun hk => (h1 k).2 (.inl hk)⟩
  rw [e]
  exact h3
/-- A callee's contract, with the others behind: what it tells may hang on what it leaves. -/
theorem Hold.calls {P : Program} {f : FuncId} {args : Array Value} {Q : Ending → List Thing → Prop} (h : Hold F0 W (L ++ M) w)
    (hs : ∀ F, Apart L F w → Calls P f args w fun e w' => ∃ L', Q e L' ∧ Hold F w L' w') : Calls P f args w fun e w' => ∃ L', Q e L' ∧ Hold F0 W (L' ++ M) w' := by
  obtain ⟨hc, F, ha, hF⟩ := h
  obtain ⟨F1, F2, h1, h2, h3, h4⟩ := ha.split
  refine (hs F1 h3).mono fun e w' ⟨L', hq, hh⟩ => ⟨L', hq, ?_⟩
  obtain ⟨kc, F', ka, kF⟩ := hh
  have hgr : ∀ k, Gr F0 W w k → Gr F0 W w' k := fun k hk => by
    rcases hk with hk | hk
    · exact .inl hk
    · exact .inr ⟨hk.1, Nat.lt_of_lt_of_le hk.2 kc.size⟩
  refine ⟨hc.trans (kc.mono fun k _ hk => hF k ((h1 k).2 (.inl hk))), fun k => F' k ∨ F2 k, Apart.join (fun k hk hn => ?_) ka (h4.stays fun k hk => kc.block k (h4.lt k hk) (fun hn => h2 k hn hk)), fun k hk => ?_⟩
  · have hl := h4.lt k hn
    rcases kF k hk with hk | hk
    · exact h2 k hk hn
    · omega
  · rcases hk with hk | hk
    · rcases kF k hk with hk | hk
      · exact hgr k (hF k ((h1 k).2 (.inl hk)))
      · exact .inr ⟨Nat.le_trans hc.size hk.1, hk.2⟩
    · exact hgr k (hF k ((h1 k).2 (.inr hk)))
/-- The same, of a callee whose answer is known. -/
theorem Hold.call {P : Program} {f : FuncId} {args : Array Value} {v : Ending} (h : Hold F0 W (L ++ M) w)
    (hs : ∀ F, Apart L F w → Calls P f args w fun e w' => e = v ∧ Hold F w L' w') : Calls P f args w fun e w' => e = v ∧ Hold F0 W (L' ++ M) w' :=
  (Hold.calls (Q := fun e l => e = v ∧ l = L') h fun F hF => (hs F hF).mono fun e w' ⟨h1, h2⟩ => ⟨L', ⟨h1, rfl⟩, h2⟩).mono fun e w' ⟨l, ⟨h1, h2⟩, h3⟩ => by
    subst h2
    exact ⟨h1, h3⟩
/-- Nothing old was changed. -/
theorem Hold.on (h : Hold F0 W L w) (hb : Below w.heap.size w w') : Hold F0 W L w' := by
  have h' : Hold F0 W ([] ++ L) w := h
  exact Hold.step (L := []) (L' := []) h' fun F hF => ⟨Chg.of_below hb, fun _ => False, fun _ h => h, fun _ h => h.elim⟩
theorem Hold.alloc (h : Hold F0 W L w) (o : Obj) : Hold F0 W L (w.alloc o) := h.on ((Below.refl _ _).alloc (Nat.le_refl _) _)
theorem Hold.drew (h : Hold F0 W L w) : Hold F0 W L w.drew := h.on (Below.refl _ _).drew
theorem Hold.drewN (h : Hold F0 W L w) (n : Nat) : Hold F0 W L (w.drewN n) := h.on ⟨rfl, rfl, rfl, Nat.le_refl _, fun _ _ => rfl⟩
/-- A new thing, of new blocks. -/
theorem Hold.new {F : Nat → Prop} (h : Hold F0 W L w) (hb : Below w.heap.size w w') (hA : A.holds F w') (hF : ∀ k, F k → w.heap.size ≤ k) : Hold F0 W (A :: L) w' := by
  have h' : Hold F0 W ([] ++ L) w := h
  exact Hold.step (L := []) (L' := [A]) h' fun G hG => ⟨Chg.of_below hb, F, Apart.one hA, fun k hk => .inr ⟨hF k hk, A.lt hA k hk⟩⟩
theorem Hold.newBlk (h : Hold F0 W L w) (o : Obj) : Hold F0 W (blk w.heap.size o :: L) (w.alloc o) :=
  h.new (F := fun k => k = w.heap.size) ((Below.refl _ _).alloc (Nat.le_refl _) _) ⟨fun _ => Iff.rfl, heap_alloc_new w o⟩ (fun k hk => by omega)
/-- A slice that is nil, or has no block. -/
theorem Hold.nilRow (h : Hold F0 W L w) (e : TypeId) (size : Nat) : Hold F0 W (row e size (.slice none 0 0) 0 [] :: L) w :=
  h.new (F := fun _ => False) (Below.refl _ _) ⟨fun _ h => h.elim, World.ownsRow_nil w 0 e size, fun g hg => by simp [Value.ownBlock] at hg⟩ (fun _ h => h.elim)
theorem Hold.block {b : Nat} {o : Obj} (h : Hold F0 W L w) (hA : blk b o ∈ L) : w.heap[b]? = some o := by
  obtain ⟨F, hh⟩ := h.get _ hA
  exact hh.2
theorem Hold.cell {b : Nat} {cs : Array Value} {t : TypeId} (h : Hold F0 W L w) (hA : blk b (.cells cs t (0, 0)) ∈ L) (j : Nat) : w.cell? ⟨b, j, none⟩ = cs[j]? := cell_of_row w b j _ _ _ (h.block hA)
theorem Hold.froz {b : Nat} {cs : Array Value} {t : TypeId} (h : Hold F0 W L w) (hA : blk b (.cells cs t (0, 0)) ∈ L) (j : Nat) : w.frozen? ⟨b, j, none⟩ = false := frozen_of_row w b j _ _ (h.block hA)
theorem Hold.rowIs {e : TypeId} {size n : Nat} {v : Value} {xs : List Value} (h : Hold F0 W L w) (hA : row e size v n xs ∈ L) : w.ownsRow 0 e size v n xs := by
  obtain ⟨F, hh⟩ := h.get _ hA
  exact hh.2.1
/-- A cell of a block is written. -/
theorem Hold.setBlk {b : Nat} {cs : Array Value} {t : TypeId} (h : Hold F0 W (blk b (.cells cs t (0, 0)) :: L) w) (j : Nat) (v : Value) : Hold F0 W (blk b (.cells (cs.setIfInBounds j v) t (0, 0)) :: L) (w.setCell ⟨b, j, none⟩ v) :=
  h.step1 fun F ⟨h1, h2⟩ => ⟨(Chg.refl _ _).setCell (.inl ((h1 b).2 rfl)) v, F, Apart.one ⟨h1, heap_setCell_same w b j cs t v h2⟩, fun k hk => .inl hk⟩
/-- A row has grown (append). -/
theorem Hold.appended {e : TypeId} {size n n' g cap : Nat} {v : Value} {xs xs' : List Value} (h : Hold F0 W (row e size v n xs :: L) w) (hown : w'.ownsRow 0 e size (.slice (some ⟨g, 0, none⟩) n' cap) n' xs')
    (hg : w.grownBy w' v.ownBlock) (hat : v.ownBlock = some g ∨ g = w.heap.size) (hlt : g < w'.heap.size) : Hold F0 W (row e size (.slice (some ⟨g, 0, none⟩) n' cap) n' xs' :: L) w' :=
  h.step1 fun F ⟨h1, h2⟩ => ⟨(Chg.refl _ _).grown hg (fun k hk => .inl (h2.2 k hk)), fun k => k = g, Apart.one ⟨fun k hk => by subst hk; exact hlt, hown, fun k hk => by simpa [Value.ownBlock] using hk.symm⟩, fun k hk => by
    subst hk
    rcases hat with hat | rfl
    · exact .inl (h2.2 k hat)
    · exact .inr ⟨Nat.le_refl _, hlt⟩⟩
/-- Another slice of the same block, with what is there. -/
theorem Hold.recut {e e' : TypeId} {size size' n n' : Nat} {v v' : Value} {xs xs' : List Value} (h : Hold F0 W (row e size v n xs :: L) w) (hown : w.ownsRow 0 e' size' v' n' xs') (hat : ∀ g, v'.ownBlock = some g → v.ownBlock = some g) :
    Hold F0 W (row e' size' v' n' xs' :: L) w :=
  h.step1 fun F ⟨h1, h2⟩ => ⟨Chg.refl _ _, F, Apart.one ⟨h1, hown, fun g hg => h2.2 g (hat g hg)⟩, fun k hk => .inl hk⟩
/-- The cells of a row are laid anew (copy). -/
theorem Hold.setRow {e : TypeId} {size n g cap : Nat} {xs xs' : List Value} {cs : Array Value} (h : Hold F0 W (row e size (.slice (some ⟨g, 0, none⟩) n cap) n xs :: L) w)
    (hown : (w.setRow g cs).ownsRow 0 e size (.slice (some ⟨g, 0, none⟩) n cap) n xs') : Hold F0 W (row e size (.slice (some ⟨g, 0, none⟩) n cap) n xs' :: L) (w.setRow g cs) :=
  h.step1 fun F ⟨h1, h2⟩ => by
    have hs : (w.setRow g cs).heap.size = w.heap.size := by simp [World.setRow]
    have hg := h2.2 g rfl
    exact ⟨⟨rfl, rfl, rfl, by rw [hs]; exact Nat.le_refl _, fun k _ hk => setRow_other w g k cs (fun e => hk (by rw [e]; exact hg))⟩, F, Apart.one ⟨fun k hk => by rw [hs]; exact h1 k hk, hown, fun k hk => h2.2 k hk⟩, fun k hk => .inl hk⟩
/-- The cells of a row's block were laid anew, and the slice is another one of it. -/
theorem Hold.relaid {e : TypeId} {size n n' g : Nat} {v v' : Value} {xs xs' : List Value} (h : Hold F0 W (row e size v n xs :: L) w) (hc : Chg (fun k => k = g) w w') (hv : v.ownBlock = some g)
    (hown : w'.ownsRow 0 e size v' n' xs') (hv' : ∀ g', v'.ownBlock = some g' → g' = g) : Hold F0 W (row e size v' n' xs' :: L) w' :=
  h.step1 fun F ⟨h1, h2⟩ => ⟨hc.mono (fun k _ hk => by subst hk; exact h2.2 k hv), F, Apart.one ⟨fun k hk => Nat.lt_of_lt_of_le (h1 k hk) hc.size, hown, fun g' hg' => by rw [hv' g' hg']; exact h2.2 g hv⟩, fun k hk => .inl hk⟩
/-- A row of a block that is known whole. -/
theorem Hold.blkRow {e : TypeId} {size n g : Nat} {cs : Array Value} (h : Hold F0 W (blk g (.cells cs e (0, 0)) :: L) w) (hn : cs.size = n * size) (hm : n ≤ maxLen) : Hold F0 W (row e size (.slice (some ⟨g, 0, none⟩) n n) n cs.toList :: L) w :=
  h.step1 fun F ⟨h1, h2⟩ => ⟨Chg.refl _ _, F, Apart.one ⟨fun k hk => by rw [(h1 k).1 hk]; exact lt_of_block h2, ⟨⟨by simpa using hn, .inr ⟨g, n, cs, rfl, Nat.zero_le _, h2, Nat.le_refl _, hm, hn, by rw [List.take_of_length_le (by simp [hn])]⟩⟩, fun k hk => by
    simp [Value.ownBlock] at hk
    exact (h1 k).2 hk.symm⟩⟩, fun k hk => .inl hk⟩
end
/-- One of many things. -/
def ex {X : Type} (A : X → Thing) : Thing where
  holds F w := ∃ x, (A x).holds F w
  stays := fun ⟨x, h⟩ hs => ⟨x, (A x).stays h hs⟩
  lt := fun ⟨x, h⟩ => (A x).lt h
/-- Things, as one. -/
def star (L : List Thing) : Thing where
  holds F w := Apart L F w
  stays := fun h hs => Apart.stays h hs
  lt := fun h => Apart.lt h
/-- A fact, and a thing. -/
def fact (p : Prop) (A : Thing) : Thing where
  holds F w := p ∧ A.holds F w
  stays := fun ⟨h0, h⟩ hs => ⟨h0, A.stays h hs⟩
  lt := fun ⟨_, h⟩ => A.lt h
section
variable {F0 : Nat → Prop} {W w w' : World} {L M : List Thing}
theorem Hold.unex {X : Type} {A : X → Thing} (h : Hold F0 W (ex A :: L) w) : ∃ x, Hold F0 W (A x :: L) w := by
  obtain ⟨hc, F, ⟨F1, F2, h1, h2, ⟨x, h3⟩, h4⟩, hF⟩ := h
  exact ⟨x, hc, F, ⟨F1, F2, h1, h2, h3, h4⟩, hF⟩
theorem Hold.toex {X : Type} {A : X → Thing} (x : X) (h : Hold F0 W (A x :: L) w) : Hold F0 W (ex A :: L) w := by
  obtain ⟨hc, F, ⟨F1, F2, h1, h2, h3, h4⟩, hF⟩ := h
  exact ⟨hc, F, ⟨F1, F2, h1, h2, ⟨x, h3⟩, h4⟩, hF⟩
theorem Hold.unstar (h : Hold F0 W (star M :: L) w) : Hold F0 W (M ++ L) w := by
  obtain ⟨hc, F, ⟨F1, F2, h1, h2, h3, h4⟩, hF⟩ := h
  have e : F = fun k => F1 k ∨ F2 k := funext fun k => propext (h1 k)
  exact ⟨hc, F, by rw [e]; exact Apart.join h2 h3 h4, hF⟩
theorem Hold.tostar (h : Hold F0 W (M ++ L) w) : Hold F0 W (star M :: L) w := by
  obtain ⟨hc, F, ha, hF⟩ := h
  obtain ⟨F1, F2, h1, h2, h3, h4⟩ := ha.split
  exact ⟨hc, F, ⟨F1, F2, h1, h2, h3, h4⟩, hF⟩
theorem Hold.unfact {p : Prop} {A : Thing} (h : Hold F0 W (fact p A :: L) w) : p ∧ Hold F0 W (A :: L) w := by
  obtain ⟨hc, F, ⟨F1, F2, h1, h2, ⟨hp, h3⟩, h4⟩, hF⟩ := h
  exact ⟨hp, hc, F, ⟨F1, F2, h1, h2, h3, h4⟩, hF⟩
theorem Hold.tofact {p : Prop} {A : Thing} (hp : p) (h : Hold F0 W (A :: L) w) : Hold F0 W (fact p A :: L) w := by
  obtain ⟨hc, F, ⟨F1, F2, h1, h2, h3, h4⟩, hF⟩ := h
  exact ⟨hc, F, ⟨F1, F2, h1, h2, ⟨hp, h3⟩, h4⟩, hF⟩
/-- A contract of the older kind (one thing, changed in its place). -/
theorem turned {P : Program} {f : FuncId} {args : Array Value} {v : Value} {A A' : Thing} {w : World} (hs : ∀ F, A.holds F w → Calls P f args w fun e w' => e = .returned v ∧ A'.holds (Gr F w w') w' ∧ Chg F w w') :
    ∀ F, Apart [A] F w → Calls P f args w fun e w' => e = .returned v ∧ Hold F w [A'] w' :=
  fun F hF => (hs F hF.unone).mono fun e w' ⟨h1, h2, h3⟩ => ⟨h1, h3, _, Apart.one h2, fun k hk => hk⟩
end
/-- The cells of a row's block. -/
theorem row_cur {w : World} {e : TypeId} {size g n cap : Nat} {xs : List Value} (h : w.ownsRow 0 e size (.slice (some ⟨g, 0, none⟩) n cap) n xs) :
    ∃ cur : List Value, w.heap[g]? = some (.cells cur.toArray e (0, 0)) ∧ cur.length = cap * size ∧ cur.take (n * size) = xs ∧ n ≤ cap ∧ cap ≤ maxLen := by
  rcases h.2 with ⟨h2, _⟩ | ⟨g', cap', cur, hv, _, hg, hn, hc, hs, ht⟩
  · cases h2
  · simp only [Value.slice.injEq, Option.some.injEq, Addr.mk.injEq, and_true, true_and] at hv
    obtain ⟨rfl, rfl⟩ := hv
    exact ⟨cur.toList, by simpa using hg, by simpa using hs, ht, hn, hc⟩
theorem row_of_cur {w : World} {e : TypeId} {size g n cap : Nat} {cur xs : List Value} (hg : w.heap[g]? = some (.cells cur.toArray e (0, 0))) (hs : cur.length = cap * size) (hn : n ≤ cap) (hc : cap ≤ maxLen) (hx : xs.length = n * size) (ht : cur.take (n * size) = xs) :
    w.ownsRow 0 e size (.slice (some ⟨g, 0, none⟩) n cap) n xs := ⟨hx, .inr ⟨g, cap, cur.toArray, rfl, Nat.zero_le _, hg, hn, hc, by simpa using hs, by simpa using ht⟩⟩
theorem splice_head {cur cs : List Value} (h : cs.length ≤ cur.length) : (splice cur 0 cs).length = cur.length ∧ (splice cur 0 cs).take cs.length = cs := by
  refine ⟨length_splice cur 0 cs (by omega), ?_⟩
  unfold splice
  simp
theorem chg_setRow (w : World) (g : Nat) (cs : Array Value) : Chg (fun k => k = g) w (w.setRow g cs) :=
  ⟨rfl, rfl, rfl, by simp [World.setRow], fun k _ hk => setRow_other w g k cs (fun e => hk e)⟩
/-- 'copy' within a region that draws its order, into a row that is known whole; the source may be the same row. Only the row's block has changed. -/
theorem step_copy_in {P : Program} {ops : Array Oper} {o : Oper} {a : Act} {w : World} {K : Act → World → Prop} {Q : Exit → Act → World → Prop} {E : Prop} (hgd : o.guard = none) (d s : Operand) (dT sT : TypeId)
    (ho : o.op = .call { callee := .builtin .copy, args := #[d, s], argTypes := #[dT, sT] }) (elem : TypeId) (hu : P.underlying dT = some (.slice elem)) (hsz : (P.info? elem).map (·.size) = some 1)
    (dp sp : Option Addr) (dLen dCap sLen sCap : Nat) (hd : a.eval d = .slice dp dLen dCap) (hs : a.eval s = .slice sp sLen sCap)
    (g off : Nat) (cur : List Value) (t : TypeId) (hg : w.heap[g]? = some (.cells cur.toArray t (0, 0))) (cs : List Value) (hn : cs.length = Nat.min sLen dLen)
    (hpos : 0 < cs.length → dp = some ⟨g, off, none⟩ ∧ ∃ ad, sp = some ad ∧ ∀ j v, cs[j]? = some v → w.cell? (ad.add j) = some v)
    (hfit : off + cs.length ≤ cur.length) (h1 : ∀ v ∈ cs, v.oneCell' = true)
    (h : ∀ w', Hid (w'.heap[g]? = some (.cells (splice cur off cs).toArray t (0, 0))) → Hid (Chg (fun k => k = g) w w') → K (a.put o.dst (goInt cs.length)) w') :
    if Region.wanted o (yielded ops a.tmps) = true then Oper.wp P o a w K Q else E := by
  have hw : Region.wanted o (yielded ops a.tmps) = true := by simp [Region.wanted, hgd]
  rw [if_pos hw]
  by_cases h0 : cs.length = 0
  · obtain rfl : cs = [] := List.eq_nil_of_length_eq_zero h0
    have hrun := run_copy_none (P := P) w dT sT o.type elem dp sp dLen dCap sLen sCap hu hsz (by simpa using hn.symm)
    unfold Oper.wp
    simp [execOp, ho, resolve, invoke, builtin, hd, hs, hrun, Result.andThen]
    exact h w (show _ = _ by simpa [splice] using hg) (Chg.refl _ _)
  · obtain ⟨rfl, ad, rfl, hsrc⟩ := hpos (by omega)
    have hrun := run_copy_row (P := P) w dT sT o.type elem g off dLen dCap ad sLen sCap cur.toArray t cs hu hsz hg hn hsrc (by simpa using hfit) h1
    unfold Oper.wp
    simp [execOp, ho, resolve, invoke, builtin, hd, hs, hrun, Result.andThen]
    exact h _ (show _ = _ by simpa [splice] using setRow_heap w g _ _ t _ hg) (chg_setRow _ _ _)
/-- A slice of whole numbers that is only read: wherever in its block it begins. -/
def view (k : IntKind) (v : Value) (l : List Int) : Thing where
  holds F w := (∀ j, F j → j < w.heap.size) ∧ lift.Ints w k v l ∧ ∀ g, v.ownBlock = some g → F g
  stays := fun {F w w'} ⟨h1, h2, h3⟩ hs => by
    have hl : ∀ j, F j → j < w'.heap.size := fun j hj => by
      have h := hs j hj
      rw [Array.getElem?_eq_getElem (h1 j hj)] at h
      exact (Array.getElem?_eq_some_iff.1 h).1
    refine ⟨hl, ?_, h3⟩
    rcases h2 with h | ⟨h0, b, off, cap, rfl, hc, hm, hb, hx⟩
    · exact .inl h
    · have hF : F b := h3 b rfl
      exact .inr ⟨h0, b, off, cap, rfl, hc, hm, hl b hF, fun i hi => (World.cell?_of_block (w := w) (a := ⟨b, off + i, none⟩) (hs b hF)).trans (hx i hi)⟩
  lt := fun h => h.1
section
variable {F0 : Nat → Prop} {W w : World} {L : List Thing}
theorem Hold.viewIs {k : IntKind} {v : Value} {l : List Int} (h : Hold F0 W L w) (hA : view k v l ∈ L) : lift.Ints w k v l := by
  obtain ⟨F, hh⟩ := h.get _ hA
  exact hh.2.1
theorem row_ints {k : IntKind} {e : TypeId} {v : Value} {l : List Int} (h : w.ownsRow 0 e 1 v l.length (l.map (Value.int k))) : lift.Ints w k v l := by
  rcases h.2 with ⟨rfl, h2⟩ | ⟨g, cap, cur, rfl, _, hg, hn, hc, hs, ht⟩
  · exact .inl ⟨List.eq_nil_of_length_eq_zero h2, none, 0, rfl⟩
  · by_cases h0 : 0 < l.length
    · refine .inr ⟨h0, g, 0, cap, rfl, hn, hc, lt_of_block hg, fun i hi => ?_⟩
      rw [Nat.zero_add, h.cellAt i (by omega)]
      simp [lift.nth, List.getD, hi]
    · have : l = [] := List.eq_nil_of_length_eq_zero (by omega)
      subst this
      exact .inl ⟨rfl, _, _, rfl⟩
/-- A row that is only read from now on. -/
theorem Hold.rowView {k : IntKind} {e : TypeId} {v : Value} {l : List Int} (h : Hold F0 W (row e 1 v l.length (l.map (Value.int k)) :: L) w) : Hold F0 W (view k v l :: L) w :=
  h.step1 fun F ⟨h1, h2⟩ => ⟨Chg.refl _ _, F, Apart.one ⟨h1, row_ints h2.1, h2.2⟩, fun j hj => .inl hj⟩
/-- All but the first one. -/
theorem Hold.viewTail {k : IntKind} {g off n cap : Nat} {x : Int} {l : List Int} (h : Hold F0 W (view k (.slice (some ⟨g, off, none⟩) n cap) (x :: l) :: L) w) :
    Hold F0 W (view k (.slice (if cap = 1 then some ⟨g, off, none⟩ else some ⟨g, off + 1, none⟩) l.length (cap - 1)) l :: L) w :=
  h.step1 fun F ⟨h1, h2, h3⟩ => by
    have hF : F g := h3 g rfl
    refine ⟨Chg.refl _ _, F, Apart.one ⟨h1, ?_, fun g' hg' => ?_⟩, fun j hj => .inl hj⟩
    · rcases h2 with ⟨h, _⟩ | ⟨h0, b, o, c, hv, hc, hm, hb, hx⟩
      · cases h
      · simp only [Value.slice.injEq, Option.some.injEq, Addr.mk.injEq, and_true] at hv
        obtain ⟨⟨rfl, rfl⟩, _, rfl⟩ := hv
        simp only [List.length_cons] at hc hx
        by_cases hl : 0 < l.length
        · rw [if_neg (by omega)]
          refine .inr ⟨hl, g, off + 1, cap - 1, rfl, by omega, by omega, hb, fun i hi => ?_⟩
          have := hx (i + 1) (by omega)
          rw [Nat.add_assoc, Nat.add_comm 1 i, this]
          simp [lift.nth, List.getD]
        · have : l = [] := List.eq_nil_of_length_eq_zero (by omega)
          subst this
          exact .inl ⟨rfl, _, _, rfl⟩
    · have : g' = g := by
        split at hg' <;> simpa [Value.ownBlock] using hg'.symm
      rw [this]
      exact hF
end
end Go.Proofs.Ytcacahokdnpboaa.sep
