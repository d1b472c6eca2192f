/- Frames: which blocks a call may have changed; an object of two slices that the program itself has made. Nothing here speaks of the program. -/
import Derived.Test.YtcacahokdnpboaaOwn
import Derived.OneCell
namespace Go.Proofs.Ytcacahokdnpboaa.frame
open Go.ChangeShapes Go.WideShapes Go.ChangeAt Go.RowKit

/-- w' is w, but for the blocks of F, and for new ones. -/
structure Chg (F : Nat → Prop) (w w' : World) : Prop where
  os : w'.os = w.os
  tape : w'.tape = w.tape
  output : w'.output = w.output
  size : w.heap.size ≤ w'.heap.size
  block : ∀ k, k < w.heap.size → ¬ F k → w'.heap[k]? = w.heap[k]?
/-- F, and the blocks that are new. -/
def Gr (F : Nat → Prop) (w w' : World) : Nat → Prop := fun k => F k ∨ (w.heap.size ≤ k ∧ k < w'.heap.size)
theorem Chg.refl (F : Nat → Prop) (w : World) : Chg F w w := ⟨rfl, rfl, rfl, Nat.le_refl _, fun _ _ _ => rfl⟩
theorem Chg.trans {F : Nat → Prop} {a b c : World} (h : Chg F a b) (k : Chg (Gr F a b) b c) : Chg F a c :=
  ⟨k.os.trans h.os, k.tape.trans h.tape, k.output.trans h.output, Nat.le_trans h.size k.size, fun i hi hF => (k.block i (Nat.lt_of_lt_of_le hi h.size) (fun hg => by
    rcases hg with hg | hg
    · exact hF hg
    · omega)).trans (h.block i hi hF)⟩
theorem Chg.mono {F G : Nat → Prop} {a b : World} (h : Chg F a b) (hs : ∀ k, k < a.heap.size → F k → G k) : Chg G a b := ⟨h.os, h.tape, h.output, h.size, fun k hk hG => h.block k hk (fun hF => hG (hs k hk hF))⟩
theorem Chg.trans' {F : Nat → Prop} {a b c : World} (h : Chg F a b) (k : Chg F b c) : Chg F a c := h.trans (k.mono fun _ _ hF => .inl hF)
theorem Chg.of_below {F : Nat → Prop} {a b : World} (h : Below a.heap.size a b) : Chg F a b := ⟨h.os, h.tape, h.output, h.size, fun k hk _ => h.block k hk⟩
theorem Chg.below {F : Nat → Prop} {B : Nat} {a w w' : World} (h : Chg F w w') (hb : Below B a w) (hF : ∀ k, F k → B ≤ k) (hB : B ≤ w.heap.size) : Below B a w' :=
  hb.trans ⟨h.os, h.tape, h.output, h.size, fun k hk => h.block k (by omega) (fun hf => by have := hF k hf; omega)⟩
theorem Chg.cell {F : Nat → Prop} {w w' : World} (h : Chg F w w') {p : Addr} (hp : p.block < w.heap.size) (hF : ¬ F p.block) : w'.cell? p = w.cell? p := World.cell?_of_block (h.block _ hp hF)
theorem Chg.frozen {F : Nat → Prop} {w w' : World} (h : Chg F w w') {p : Addr} (hp : p.block < w.heap.size) (hF : ¬ F p.block) : w'.frozen? p = w.frozen? p := World.frozen?_of_block (h.block _ hp hF)
theorem Chg.setCell {F : Nat → Prop} {a w : World} (h : Chg F a w) {p : Addr} (hp : F p.block ∨ a.heap.size ≤ p.block) (u : Value) : Chg F a (w.setCell p u) :=
  ⟨h.os, h.tape, h.output, by simpa [World.setCell] using h.size, fun k hk hF => (Below.heap_setCell _ _ _ _ (fun e => by
    rcases hp with hp | hp
    · rw [e] at hF; exact hF hp
    · omega)).trans (h.block k hk hF)⟩
theorem Chg.grown {F : Nat → Prop} {a w w' : World} {row : Option Nat} (h : Chg F a w) (hg : w.grownBy w' row) (hr : ∀ k, row = some k → F k ∨ a.heap.size ≤ k) : Chg F a w' :=
  ⟨hg.os.trans h.os, hg.tape.trans h.tape, hg.output.trans h.output, Nat.le_trans h.size hg.size, fun k hk hF => (hg.block k (Nat.lt_of_lt_of_le hk h.size) (fun e => by
    rcases hr k e.symm with h1 | h1
    · exact hF h1
    · omega)).trans (h.block k hk hF)⟩
theorem Gr.of {F : Nat → Prop} {w w' : World} {k : Nat} (h : F k) : Gr F w w' k := .inl h
theorem Gr.ge {F : Nat → Prop} {w w' : World} {k B : Nat} (hF : ∀ k, F k → B ≤ k) (hB : B ≤ w.heap.size) (h : Gr F w w' k) : B ≤ k := by
  rcases h with h | h
  · exact hF k h
  · omega
theorem Gr.lt {F : Nat → Prop} {w w' : World} {k : Nat} (hF : ∀ k, F k → k < w.heap.size) (hs : w.heap.size ≤ w'.heap.size) (h : Gr F w w' k) : k < w'.heap.size := by
  rcases h with h | h
  · have := hF k h; omega
  · omega

/-- A row whose block is one of F. -/
def RowOf (w : World) (F : Nat → Prop) (e : TypeId) (size : Nat) (v : Value) (n : Nat) (xs : List Value) : Prop := w.ownsRow 0 e size v n xs ∧ ∀ g, v.ownBlock = some g → F g
theorem RowOf.slice {w : World} {F : Nat → Prop} {e : TypeId} {size : Nat} {v : Value} {n : Nat} {xs : List Value} (h : RowOf w F e size v n xs) : ∃ a cap, v = .slice a n cap ∧ n ≤ cap ∧ cap ≤ maxLen := by
  obtain ⟨⟨_, h2 | ⟨g, cap, cur, hv, _, _, hn, hc, _⟩⟩, _⟩ := h
  · obtain ⟨rfl, rfl⟩ := h2; exact ⟨none, 0, rfl, Nat.le_refl _, by simp [maxLen]⟩
  · exact ⟨_, cap, hv, hn, hc⟩
theorem RowOf.at_ {w : World} {F : Nat → Prop} {e : TypeId} {size : Nat} {v : Value} {n : Nat} {xs : List Value} (h : RowOf w F e size v n xs) (hn : 0 < n) :
    ∃ g cap, v = .slice (some ⟨g, 0, none⟩) n cap ∧ F g ∧ g < w.heap.size ∧ n ≤ cap ∧ cap ≤ maxLen ∧ (∀ j, j < n * size → w.cell? ⟨g, j, none⟩ = xs[j]?) ∧ ∀ j, w.frozen? ⟨g, j, none⟩ = false := by
  obtain ⟨g, cap, rfl, _, hlt⟩ := h.1.form hn
  obtain ⟨a, c, hv, h1, h2⟩ := h.slice
  simp only [Value.slice.injEq, true_and] at hv
  obtain ⟨_, rfl⟩ := hv
  exact ⟨g, cap, rfl, h.2 g rfl, hlt, h1, h2, fun j hj => h.1.cellAt j hj, fun j => h.1.frozenAt j⟩
theorem RowOf.chg {w w' : World} {F G : Nat → Prop} {e : TypeId} {size : Nat} {v : Value} {n : Nat} {xs : List Value} (h : RowOf w F e size v n xs) (hc : Chg G w w') (hd : ∀ k, F k → ¬ G k) : RowOf w' F e size v n xs := by
  refine ⟨⟨h.1.1, ?_⟩, h.2⟩
  rcases h.1.2 with h2 | ⟨g, cap, cur, rfl, hb, hg, r⟩
  · exact .inl h2
  · exact .inr ⟨g, cap, cur, rfl, hb, (hc.block g (lt_of_block hg) (hd g (h.2 g rfl))).trans hg, r⟩
theorem RowOf.mono {w : World} {F G : Nat → Prop} {e : TypeId} {size : Nat} {v : Value} {n : Nat} {xs : List Value} (h : RowOf w F e size v n xs) (hs : ∀ k, F k → G k) : RowOf w G e size v n xs := ⟨h.1, fun g hg => hs g (h.2 g hg)⟩
theorem ownsRow_elem {w : World} {base : Nat} {e : TypeId} {size : Nat} {v : Value} {n : Nat} {xs : List Value} (h : w.ownsRow base e size v n xs) {g : Nat} (hv : v.ownBlock = some g) : ∃ cur, w.heap[g]? = some (.cells cur e (0, 0)) := by
  rcases h.2 with ⟨rfl, _⟩ | ⟨g', cap, cur, rfl, _, hg, _⟩
  · simp [Value.ownBlock] at hv
  · simp [Value.ownBlock] at hv
    subst hv
    exact ⟨cur, hg⟩

/-- A struct of two slices at block b (its type T): the first holds l1 (elements of one cell, of type e1), the second n2 elements of type e2, their cells l2; all of it in F. -/
structure TwoV (w : World) (F : Nat → Prop) (b : Nat) (T e1 e2 : TypeId) (s2 : Nat) (v1 v2 : Value) (l1 : List Value) (n2 : Nat) (l2 : List Value) : Prop where
  lt : ∀ k, F k → k < w.heap.size
  self : F b
  blk : w.heap[b]? = some (.cells #[v1, v2] T (0, 0))
  r1 : RowOf w F e1 1 v1 l1.length l1
  r2 : RowOf w F e2 s2 v2 n2 l2
def Two (w : World) (F : Nat → Prop) (b : Nat) (T e1 e2 : TypeId) (s2 : Nat) (l1 : List Value) (n2 : Nat) (l2 : List Value) : Prop := ∃ v1 v2, TwoV w F b T e1 e2 s2 v1 v2 l1 n2 l2
section
variable {w : World} {F : Nat → Prop} {b : Nat} {T e1 e2 : TypeId} {s2 : Nat} {v1 v2 : Value} {l1 : List Value} {n2 : Nat} {l2 : List Value}
theorem TwoV.c0 (h : TwoV w F b T e1 e2 s2 v1 v2 l1 n2 l2) : w.cell? ⟨b, 0, none⟩ = some v1 := by rw [cell_of_row w b 0 _ _ _ h.blk]; rfl
theorem TwoV.c1 (h : TwoV w F b T e1 e2 s2 v1 v2 l1 n2 l2) : w.cell? ⟨b, 1, none⟩ = some v2 := by rw [cell_of_row w b 1 _ _ _ h.blk]; rfl
theorem TwoV.f (h : TwoV w F b T e1 e2 s2 v1 v2 l1 n2 l2) (j : Nat) : w.frozen? ⟨b, j, none⟩ = false := frozen_of_row w b j _ _ h.blk
theorem TwoV.chg {w' : World} {G : Nat → Prop} (h : TwoV w F b T e1 e2 s2 v1 v2 l1 n2 l2) (hc : Chg G w w') (hd : ∀ k, F k → ¬ G k) : TwoV w' F b T e1 e2 s2 v1 v2 l1 n2 l2 :=
  ⟨fun k hk => Nat.lt_of_lt_of_le (h.lt k hk) hc.size, h.self, (hc.block b (h.lt b h.self) (hd b h.self)).trans h.blk, h.r1.chg hc hd, h.r2.chg hc hd⟩
theorem TwoV.mono {G : Nat → Prop} (h : TwoV w F b T e1 e2 s2 v1 v2 l1 n2 l2) (hs : ∀ k, F k → G k) (hl : ∀ k, G k → k < w.heap.size) : TwoV w G b T e1 e2 s2 v1 v2 l1 n2 l2 :=
  ⟨hl, hs b h.self, h.blk, h.r1.mono hs, h.r2.mono hs⟩
theorem Two.chg {w' : World} {G : Nat → Prop} (h : Two w F b T e1 e2 s2 l1 n2 l2) (hc : Chg G w w') (hd : ∀ k, F k → ¬ G k) : Two w' F b T e1 e2 s2 l1 n2 l2 := by
  obtain ⟨v1, v2, h⟩ := h
  exact ⟨v1, v2, h.chg hc hd⟩
theorem Two.below {w' : World} (h : Two w F b T e1 e2 s2 l1 n2 l2) (hc : Below w.heap.size w w') : Two w' F b T e1 e2 s2 l1 n2 l2 :=
  h.chg (G := fun _ => False) (Chg.of_below hc) (fun _ _ h => h)
/-- One element more in the second slice: behind an append in the world w0 (as w was), and the store of the new slice. -/
theorem TwoV.noted {w0 w1 : World} {g n : Nat} {cap : Nat} {l3 : List Value} (h : TwoV w F b T e1 e2 s2 v1 v2 l1 n2 l2) (hb : Below w.heap.size w w0) (hT1 : T ≠ e1) (hT2 : T ≠ e2) (h12 : e1 ≠ e2)
    (hown : w1.ownsRow 0 e2 s2 (.slice (some ⟨g, 0, none⟩) n cap) n l3) (hg : w0.grownBy w1 v2.ownBlock) (hat : v2.ownBlock = some g ∨ g = w0.heap.size) (hlt : g < w1.heap.size) :
    TwoV (w1.setCell ⟨b, 1, none⟩ (.slice (some ⟨g, 0, none⟩) n cap)) (Gr F w w1) b T e1 e2 s2 v1 (.slice (some ⟨g, 0, none⟩) n cap) l1 n l3 ∧ Chg F w (w1.setCell ⟨b, 1, none⟩ (.slice (some ⟨g, 0, none⟩) n cap)) := by
  have hs : w.heap.size ≤ w1.heap.size := Nat.le_trans hb.size hg.size
  have hgF : Gr F w w1 g := by
    rcases hat with hat | rfl
    · exact .inl (h.r2.2 g hat)
    · exact .inr ⟨hb.size, hlt⟩
  have hbl := h.lt b h.self
  have hne2 : v2.ownBlock ≠ some b := fun e => by
    obtain ⟨cur, hc⟩ := ownsRow_elem h.r2.1 e
    rw [h.blk] at hc
    simp at hc
    exact hT2 hc.2
  have hgb : g ≠ b := fun e => by
    subst e
    rcases hat with hat | hat
    · exact hne2 hat
    · have := hb.size; omega
  have hblk1 : w1.heap[b]? = some (.cells #[v1, v2] T (0, 0)) := by
    rw [hg.block b (Nat.lt_of_lt_of_le hbl hb.size) (fun e => hne2 e.symm), hb.block b hbl, h.blk]
  have hrow1 : RowOf w1 F e1 1 v1 l1.length l1 := by
    refine ⟨?_, h.r1.2⟩
    refine ⟨h.r1.1.1, ?_⟩
    rcases h.r1.1.2 with h2 | ⟨g', cap', cur, rfl, hb', hg', r⟩
    · exact .inl h2
    · refine .inr ⟨g', cap', cur, rfl, hb', ?_, r⟩
      have hl := lt_of_block hg'
      rw [hg.block g' (Nat.lt_of_lt_of_le hl hb.size) (fun e => by
        obtain ⟨cur', hc⟩ := ownsRow_elem h.r2.1 e.symm
        rw [hg'] at hc
        simp at hc
        exact h12 hc.2), hb.block g' hl, hg']
  have hne1 : v1.ownBlock ≠ some b := fun e => by
    obtain ⟨cur, hc⟩ := ownsRow_elem h.r1.1 e
    rw [h.blk] at hc
    simp at hc
    exact hT1 hc.2
  refine ⟨⟨fun k hk => by simpa [World.setCell] using Gr.lt h.lt hs hk, .inl h.self, ?_, ⟨ownsRow_setCell_other hrow1.1 hne1 _, fun g hg => .inl (hrow1.2 g hg)⟩, ⟨ownsRow_setCell_other hown (by simp [Value.ownBlock, hgb]) _, fun g' hg' => by
    simp [Value.ownBlock] at hg'
    rw [← hg']; exact hgF⟩⟩, ?_⟩
  · rw [heap_setCell_same w1 b 1 _ T _ hblk1]
    rfl
  · exact (((Chg.of_below (F := F) hb).grown hg (fun k hk => .inl (h.r2.2 k hk))).setCell (.inl h.self) _)
theorem TwoV.mid {w0 w1 : World} (h : TwoV w F b T e1 e2 s2 v1 v2 l1 n2 l2) (hb : Below w.heap.size w w0) (hT2 : T ≠ e2) (hg : w0.grownBy w1 v2.ownBlock) (j : Nat) :
    w1.cell? ⟨b, j, none⟩ = w.cell? ⟨b, j, none⟩ ∧ w1.frozen? ⟨b, j, none⟩ = false := by
  have hbl := h.lt b h.self
  have hne2 : v2.ownBlock ≠ some b := fun e => by
    obtain ⟨cur, hc⟩ := ownsRow_elem h.r2.1 e
    rw [h.blk] at hc
    simp at hc
    exact hT2 hc.2
  have e : w1.heap[b]? = w.heap[b]? := by rw [hg.block b (Nat.lt_of_lt_of_le hbl hb.size) (fun e => hne2 e.symm), hb.block b hbl]
  exact ⟨World.cell?_of_block (w := w) (a := ⟨b, j, none⟩) e, (World.frozen?_of_block (w := w) (a := ⟨b, j, none⟩) e).trans (h.f j)⟩
theorem TwoV.mid1 {w0 w1 : World} {g n cap : Nat} (h : TwoV w F b T e1 e2 s2 (.slice (some ⟨g, 0, none⟩) n cap) v2 l1 n2 l2) (hb : Below w.heap.size w w0) (hT1 : T ≠ e1) (h12 : e1 ≠ e2) (hg : w0.grownBy w1 v2.ownBlock) (j : Nat) :
    w1.cell? ⟨g, j, none⟩ = w.cell? ⟨g, j, none⟩ ∧ w1.frozen? ⟨g, j, none⟩ = false ∧ b ≠ g := by
  obtain ⟨cur, hc⟩ := ownsRow_elem h.r1.1 rfl
  have hl := lt_of_block hc
  have e : w1.heap[g]? = w.heap[g]? := by
    rw [hg.block g (Nat.lt_of_lt_of_le hl hb.size) (fun e => by
      obtain ⟨cur', hc'⟩ := ownsRow_elem h.r2.1 e.symm
      rw [hc] at hc'
      simp at hc'
      exact h12 hc'.2), hb.block g hl]
  refine ⟨World.cell?_of_block (w := w) (a := ⟨g, j, none⟩) e, (World.frozen?_of_block (w := w) (a := ⟨g, j, none⟩) e).trans (frozen_of_row w g j _ _ hc), fun e => ?_⟩
  subst e
  rw [h.blk] at hc
  simp at hc
  exact hT1 hc.2
/-- A cell of the first slice is written. -/
theorem TwoV.stored {g n cap : Nat} (h : TwoV w F b T e1 e2 s2 (.slice (some ⟨g, 0, none⟩) n cap) v2 l1 n2 l2) (hT1 : T ≠ e1) (h12 : e1 ≠ e2) (j : Nat) (u : Value) :
    TwoV (w.setCell ⟨g, j, none⟩ u) F b T e1 e2 s2 (.slice (some ⟨g, 0, none⟩) n cap) v2 (l1.set j u) n2 l2 ∧ Chg F w (w.setCell ⟨g, j, none⟩ u) := by
  obtain ⟨cur, hc⟩ := ownsRow_elem h.r1.1 rfl
  have hgb : b ≠ g := fun e => by
    subst e
    rw [h.blk] at hc
    simp at hc
    exact hT1 hc.2
  have hn : n = l1.length := by
    obtain ⟨a, c, hv, _⟩ := h.r1.slice
    simp at hv
    exact hv.2.1
  subst hn
  have h1 := (h.r1.1.stored j u).1
  refine ⟨⟨fun k hk => by simpa [World.setCell] using h.lt k hk, h.self, by rw [heap_setCell_other _ _ _ _ hgb]; exact h.blk, ⟨by simpa using h1, h.r1.2⟩, ⟨ownsRow_setCell_other h.r2.1 (fun e => by
    obtain ⟨cur', hc'⟩ := ownsRow_elem h.r2.1 e
    rw [hc] at hc'
    simp at hc'
    exact h12 hc'.2) _, h.r2.2⟩⟩, (Chg.refl F w).setCell (.inl (h.r1.2 g rfl)) _⟩
end
end Go.Proofs.Ytcacahokdnpboaa.frame
