/- A parameter that is a slice of structs, some of whose fields are slices of whole numbers; one that is a slice of slices of whole numbers. Nothing here speaks of the program. -/
import Derived.Test.YtolampkhohahlaaDoorLift
import Derived.Deep.Slices
import Derived.Deep.Fields
import Derived.SizedLaws
namespace Go.Proofs.YtolampkhohahlaaDoor.lift
open Go.ChangeShapes Go.WideShapes Go.ChangeAt Go.RowKit Go.Deep
section
variable {H : Type} {enc : TypeId × Value → H} {P : Program}
theorem row_of_trod {t e : TypeId} {k : IntKind} {W : World} {n : Nat} {u : Value} {x : DataW H × List MemPlace} (ht : P.underlying t = some (.slice e)) (he : P.underlying e = some (.int k)) (hc : P.cellsOf e = 1)
    (h : DataW.trod enc P W 0 (fun _ => true) true n t [u] = some x) : ∃ l, Ints W k u l ∧ Fit k l ∧ (l = [] ∨ ∃ m ∈ x.1.weights P t, l.length * P.bytesOf e ≤ m) := by
  rcases open_ints ht he hc h with ⟨hcs, hx⟩ | ⟨a, len0, cap0, zs, hcs, _, hl, hm, hz, hx, hcell, hwf⟩
  · simp at hcs
    subst hcs
    exact ⟨[], .inl ⟨rfl, _, _, rfl⟩, by simp [Fit], .inl rfl⟩
  · simp at hcs
    subst hcs
    simp only [if_true] at hz
    by_cases h0 : len0 = 0
    · subst h0
      exact ⟨[], .inl ⟨rfl, _, _, rfl⟩, by simp [Fit], .inl rfl⟩
    · have hs := World.cell?_spot (hcell 0 (by omega))
      obtain ⟨b, off, spot⟩ := a
      simp [Addr.add] at hs
      subst hs
      have hlen : (zs.take len0).length = len0 := by simp; omega
      have h0c := hcell 0 (by omega)
      rw [add_plain] at h0c
      refine ⟨zs.take len0, .inr ⟨by omega, b, off, cap0, by rw [hlen], by omega, hm, cell_lt h0c, fun i hi => ?_⟩, fun n hn => hwf n (List.mem_of_mem_take hn), .inr ?_⟩
      · rw [hlen] at hi
        have := hcell i (by omega)
        rw [add_plain] at this
        rw [this]
        congr 2
        simp [nth, List.getD, hi]
      · subst hx
        refine ⟨((lits (H := H) k (zs.take len0)).length + (lits (H := H) k (zs.drop len0)).length) * P.bytesOf e, by simp [DataW.weights, ht], Nat.mul_le_mul_right _ ?_⟩
        simp [lits]
theorem weightsAll_mem {e : TypeId} {d : DataW H} {n : Nat} (hn : n ∈ d.weights P e) : ∀ {l : List (DataW H)}, d ∈ l → n ∈ DataW.weightsAll P e l := by
  intro l
  induction l with
  | nil => intro h; simp at h
  | cons c l ih =>
    intro h
    simp only [DataW.weightsAll, List.mem_append]
    rcases List.mem_cons.1 h with rfl | h
    · exact .inl hn
    · exact .inr (ih h)
/-- What a field is: a whole number of a kind, a bool, or a slice of whole numbers (of element type e). -/
inductive FR | int (k : IntKind) | bool | row (k : IntKind) (e : TypeId)
def FR.ok (P : Program) (W : World) (Wt : List Nat) : FR → Value → Prop
  | .int k, v => ∃ n, v = .int k n ∧ (Lit.int k n).wf = true
  | .bool, v => ∃ b, v = .bool b
  | .row k e, v => ∃ l, Ints W k v l ∧ Fit k l ∧ (l = [] ∨ ∃ m ∈ Wt, l.length * P.bytesOf e ≤ m)
theorem FR.ok.mono {P : Program} {W : World} {A B : List Nat} {fk : FR} {v : Value} (h : fk.ok P W A v) (hs : ∀ n ∈ A, n ∈ B) : fk.ok P W B v := by
  cases fk with
  | int k => exact h
  | bool => exact h
  | row k e =>
    obtain ⟨l, h1, h2, h3 | ⟨m, hm, h3⟩⟩ := h
    · exact ⟨l, h1, h2, .inl h3⟩
    · exact ⟨l, h1, h2, .inr ⟨m, hs m hm, h3⟩⟩
def FR.fit (P : Program) (t : TypeId) : FR → Prop
  | .int k => P.underlying t = some (.int k)
  | .bool => P.underlying t = some .bool
  | .row k e => P.underlying t = some (.slice e) ∧ P.underlying e = some (.int k) ∧ P.cellsOf e = 1
theorem FR.of_trod {W : World} {t : TypeId} {fk : FR} {n : Nat} {u : Value} {x : DataW H × List MemPlace} (ht : fk.fit P t) (h : DataW.trod enc P W 0 (fun _ => true) true n t [u] = some x) : fk.ok P W (x.1.weights P t) u := by
  cases fk with
  | int k =>
    obtain ⟨m, hm, _, hw⟩ := DataW.trod_int ht h
    simp at hm
    exact ⟨m, hm, hw⟩
  | bool =>
    obtain ⟨b, hb, _⟩ := DataW.trod_bool ht h
    simp at hb
    exact ⟨b, hb⟩
  | row k e => exact row_of_trod ht.1 ht.2.1 ht.2.2 h
theorem open_rows_structs {t e : TypeId} {fs : Array Field} {fks : List FR} {W : World} {v : Value} {d : DataW H} {p : List MemPlace} (ht : P.underlying t = some (.slice e)) (he : P.underlying e = some (.struct fs)) (hone : oneCellFields P fs = true) (hC : P.cellsOf e = fs.size)
    (hfk : fks.length = fs.size) (hpos : 0 < fs.size) (hty : ∀ (j : Nat) (f : Field) (fk : FR), fs[j]? = some f → fks[j]? = some fk → fk.fit P f.type)
    (hv : ∃ a len cap, v = .slice a len cap) (h : DataW.Trod enc P W 0 (fun _ => true) true t v d p) :
    ∃ (n : Nat) (R : Nat → Nat → Value), ((n = 0 ∧ ∃ (a : Option Addr) (cap : Nat), v = .slice a 0 cap) ∨
      (0 < n ∧ ∃ (b off cap : Nat), v = .slice (some ⟨b, off, none⟩) n cap ∧ n ≤ cap ∧ cap ≤ maxLen ∧ b < W.heap.size ∧ ∀ i, i < n → ∀ j, j < fks.length → W.cell? ⟨b, off + (i * fks.length + j), none⟩ = some (R i j))) ∧
      ∀ i, i < n → ∀ (j : Nat) (fk : FR), fks[j]? = some fk → fk.ok P W (d.weights P t) (R i j) := by
  obtain ⟨a0, len0, cap0, rfl⟩ := hv
  obtain ⟨fuel, hf⟩ := h
  rcases open_slice ht hf with ⟨hcs, _⟩ | ⟨a, len, cap, m', n, D, Pl, hcs, _, hl, hm, hmm, hx, hi⟩
  · simp [Value.cells] at hcs
    obtain ⟨rfl, rfl, rfl⟩ := hcs
    exact ⟨0, fun _ _ => undef, .inl ⟨rfl, _, _, rfl⟩, fun i hi => by omega⟩
  · simp [Value.cells] at hcs
    obtain ⟨rfl, rfl, rfl⟩ := hcs
    simp only [if_true] at hmm
    by_cases h0 : len0 = 0
    · subst h0
      exact ⟨0, fun _ _ => undef, .inl ⟨rfl, _, _, rfl⟩, fun i hi => by omega⟩
    · have key : ∀ i, i < len0 → ∀ j, j < fs.size → ∃ u, W.cell? (a.add (i * fs.size + j)) = some u ∧ ∀ (fk : FR), fks[j]? = some fk → fk.ok P W (d.weights P t) u := by
        intro i hil j hj
        obtain ⟨cs', hc, ht'⟩ := hi i (by omega)
        obtain ⟨_, hcl, hat⟩ := World.cells?_some hc
        obtain ⟨ys, n', _, hxe, _, hyl, hfld⟩ := DataW.trod_struct he ht'
        rw [hC] at hcl hat
        obtain ⟨f, hfj⟩ : ∃ f, fs[j]? = some f := ⟨fs[j], by simp [hj]⟩
        obtain ⟨ho, hk⟩ := hone_of hone j f hfj
        have h1 := hfld j f hfj
        rw [ho, hk] at h1
        have hjl : j < cs'.length := by omega
        rw [List.drop_eq_getElem_cons hjl] at h1
        have hys : ys[j]? = some (ys[j]'(by omega)) := List.getElem?_eq_getElem (by omega)
        rw [hys] at h1
        have hde : (D i).weights P e = DataW.weightsEach P (fs.toList.map (·.type)) (ys.map (·.1)) := by
          have hD : D i = .agg (ys.map (·.1)) := by
            have := hxe
            simp only [Prod.mk.injEq] at this
            exact this.1
          rw [hD]
          simp [DataW.weights, he]
        have hsub : ∀ m ∈ (ys[j]'(by omega)).1.weights P f.type, m ∈ d.weights P t := fun m hm => by
          have h2 : m ∈ (D i).weights P e := by
            rw [hde]
            exact DataW.weights_mem_each (j := j) (by simp [hfj]) (by rw [List.getElem?_map, hys]; rfl) m hm
          have h3 : d = .slice ((List.range len0).map D) ((List.range (m' - len0)).map fun j => D (len0 + j)) := by
            simp only [Prod.mk.injEq] at hx
            exact hx.1
          rw [h3]
          simp only [DataW.weights, ht, List.mem_cons, List.mem_append]
          exact .inr (.inl (weightsAll_mem h2 (List.mem_map.2 ⟨i, List.mem_range.2 hil, rfl⟩)))
        refine ⟨cs'[j], ?_, fun fk hfkj => (FR.of_trod (hty j f fk hfj hfkj) h1).mono hsub⟩
        have := hat j hj
        rw [Go.Deep.add_add] at this
        rw [this]
        exact List.getElem?_eq_getElem hjl
      have key2 : ∃ R : Nat → Nat → Value, ∀ i, i < len0 → ∀ j, j < fs.size → W.cell? (a.add (i * fs.size + j)) = some (R i j) ∧ ∀ (fk : FR), fks[j]? = some fk → fk.ok P W (d.weights P t) (R i j) := by
        have : ∀ i j, ∃ u, i < len0 → j < fs.size → W.cell? (a.add (i * fs.size + j)) = some u ∧ ∀ (fk : FR), fks[j]? = some fk → fk.ok P W (d.weights P t) u := fun i j => by
          by_cases hh : i < len0 ∧ j < fs.size
          · obtain ⟨u, hu⟩ := key i hh.1 j hh.2
            exact ⟨u, fun _ _ => hu⟩
          · exact ⟨undef, fun h1 h2 => (hh ⟨h1, h2⟩).elim⟩
        refine ⟨fun i j => (this i j).choose, fun i hi j hj => (this i j).choose_spec hi hj⟩
      obtain ⟨R, hR⟩ := key2
      have h00 := (hR 0 (by omega) 0 hpos).1
      have hs := World.cell?_spot h00
      obtain ⟨b, off, spot⟩ := a
      simp [Addr.add] at hs
      subst hs
      rw [add_plain] at h00
      refine ⟨len0, R, .inr ⟨by omega, b, off, cap0, rfl, hl, hm, cell_lt h00, fun i hi j hj => ?_⟩, fun i hi j fk hj => ?_⟩
      · have := (hR i hi j (by omega)).1
        rw [add_plain] at this
        rw [hfk]
        exact this
      · have hjl : j < fks.length := (List.getElem?_eq_some_iff.1 hj).1
        exact (hR i hi j (by omega)).2 fk hj
/-- A slice of slices of whole numbers. -/
theorem open_int_rows' {t q e : TypeId} {k : IntKind} {W : World} {v : Value} {d : DataW H} {p : List MemPlace} (ht : P.underlying t = some (.slice q)) (hq : P.underlying q = some (.slice e)) (he : P.underlying e = some (.int k)) (hcq : P.cellsOf q = 1) (hce : P.cellsOf e = 1)
    (hv : ∃ a len cap, v = .slice a len cap) (h : DataW.Trod enc P W 0 (fun _ => true) true t v d p) :
    ∃ ls : List (List Int), ((ls = [] ∧ ∃ (a : Option Addr) (cap : Nat), v = .slice a 0 cap) ∨
      (0 < ls.length ∧ ∃ (g o cap : Nat), v = .slice (some ⟨g, o, none⟩) ls.length cap ∧ ls.length ≤ cap ∧ cap ≤ maxLen ∧ g < W.heap.size ∧ ∀ (i : Nat) (h : i < ls.length), ∃ av, W.cell? ⟨g, o + i, none⟩ = some av ∧ Ints W k av ls[i])) ∧ ∀ l ∈ ls, Fit k l := by
  obtain ⟨a0, len0, cap0, rfl⟩ := hv
  obtain ⟨fuel, hf⟩ := h
  rcases open_slice ht hf with ⟨hcs, _⟩ | ⟨a, len, cap, m, n, D, Pl, hcs, _, hl, hm, hmm, _, hi⟩
  · simp [Value.cells] at hcs
    obtain ⟨rfl, rfl, rfl⟩ := hcs
    exact ⟨[], .inl ⟨rfl, _, _, rfl⟩, fun l hl => by simp at hl⟩
  · simp [Value.cells] at hcs
    obtain ⟨rfl, rfl, rfl⟩ := hcs
    simp only [if_true] at hmm
    by_cases h0 : len0 = 0
    · subst h0
      exact ⟨[], .inl ⟨rfl, _, _, rfl⟩, fun l hl => by simp at hl⟩
    · have key : ∀ i, i < len0 → ∃ u, W.cell? (a.add i) = some u ∧ ∃ l, Ints W k u l ∧ Fit k l := by
        intro i hil
        obtain ⟨cs', hc, ht'⟩ := hi i (by omega)
        obtain ⟨_, hcl, hat⟩ := World.cells?_some hc
        rw [hcq] at hcl hat
        rw [Nat.mul_one] at hat
        match cs', hcl with
        | [u], _ =>
          obtain ⟨l, k1, k2, _⟩ := row_of_trod hq he hce ht'
          refine ⟨u, ?_, l, k1, k2⟩
          have := hat 0 (by omega)
          rw [Go.Deep.add_add, Nat.add_zero] at this
          simpa using this
      have key2 : ∃ (R : Nat → Value) (L : Nat → List Int), ∀ i, i < len0 → W.cell? (a.add i) = some (R i) ∧ Ints W k (R i) (L i) ∧ Fit k (L i) := by
        have : ∀ i, ∃ y : Value × List Int, i < len0 → W.cell? (a.add i) = some y.1 ∧ Ints W k y.1 y.2 ∧ Fit k y.2 := fun i => by
          by_cases hh : i < len0
          · obtain ⟨u, hu, l, h1, h2⟩ := key i hh
            exact ⟨(u, l), fun _ => ⟨hu, h1, h2⟩⟩
          · exact ⟨(undef, []), fun h1 => (hh h1).elim⟩
        exact ⟨fun i => (this i).choose.1, fun i => (this i).choose.2, fun i hi => (this i).choose_spec hi⟩
      obtain ⟨R, L, hR⟩ := key2
      have h00 := (hR 0 (by omega)).1
      have hs := World.cell?_spot h00
      obtain ⟨b, off, spot⟩ := a
      simp [Addr.add] at hs
      subst hs
      rw [add_plain] at h00
      have hll : ((List.range len0).map L).length = len0 := by simp
      refine ⟨(List.range len0).map L, .inr ⟨by omega, b, off, cap0, by rw [hll], by omega, hm, cell_lt h00, fun i hi => ?_⟩, fun l hl => ?_⟩
      · rw [hll] at hi
        obtain ⟨h1, h2, _⟩ := hR i hi
        rw [add_plain] at h1
        exact ⟨R i, h1, by simpa using h2⟩
      · obtain ⟨i, hi, rfl⟩ := List.mem_map.1 hl
        exact (hR i (List.mem_range.1 hi)).2.2
end
end Go.Proofs.YtolampkhohahlaaDoor.lift
