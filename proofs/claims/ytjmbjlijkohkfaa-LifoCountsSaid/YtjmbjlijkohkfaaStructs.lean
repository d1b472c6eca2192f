/- A parameter that is a slice of structs, each of whose fields is one cell: what the walk needs of it. Nothing here speaks of the program. -/
import Derived.Test.YtjmbjlijkohkfaaLift
import Derived.Deep.Slices
import Derived.Deep.Fields
namespace Go.Proofs.Ytjmbjlijkohkfaa.lift
open Go.ChangeShapes Go.WideShapes Go.ChangeAt Go.RowKit Go.Deep
section
variable {H : Type} {enc : TypeId × Value → H} {P : Program}

/-- What a field is: a whole number of a kind, or a bool. -/
inductive FK | int (k : IntKind) | bool
def FK.ok : FK → Value → Prop
  | .int k, v => ∃ n, v = .int k n ∧ (Lit.int k n).wf = true
  | .bool, v => ∃ b, v = .bool b
def FK.desc : FK → TypeDesc
  | .int k => .int k
  | .bool => .bool
theorem FK.of_trod {W : World} {t : TypeId} {fk : FK} {n : Nat} {u : Value} {x : DataW H × List MemPlace} (ht : P.underlying t = some fk.desc) (h : DataW.trod enc P W 0 (fun _ => true) true n t [u] = some x) : fk.ok u := by
  cases fk with
  | int k =>
    obtain ⟨m, hm, _, hw⟩ := DataW.trod_int ht h
    simp at hm
    exact ⟨m, hm, hw⟩
  | bool =>
    obtain ⟨b, hb, _⟩ := DataW.trod_bool ht h
    simp at hb
    exact ⟨b, hb⟩
/-- A slice of n structs: field j of struct i reads as R i j. -/
def Structs (W : World) (v : Value) (n : Nat) (fks : List FK) (R : Nat → Nat → Value) : Prop :=
  (n = 0 ∧ ∃ (a : Option Addr) (cap : Nat), v = .slice a 0 cap) ∨
  (0 < n ∧ ∃ (b off cap : Nat), v = .slice (some ⟨b, off, none⟩) n cap ∧ n ≤ cap ∧ cap ≤ maxLen ∧ b < W.heap.size ∧ ∀ i, i < n → ∀ j, j < fks.length → W.cell? ⟨b, off + (i * fks.length + j), none⟩ = some (R i j))
theorem open_structs {t e : TypeId} {fs : Array Field} {fks : List FK} {W : World} {v : Value} {d : DataW H} {p : List MemPlace} (ht : P.underlying t = some (.slice e)) (he : P.underlying e = some (.struct fs)) (hone : oneCellFields P fs = true) (hC : P.cellsOf e = fs.size)
    (hfk : fks.length = fs.size) (hpos : 0 < fs.size) (hty : ∀ (j : Nat) (f : Field) (fk : FK), fs[j]? = some f → fks[j]? = some fk → P.underlying f.type = some fk.desc)
    (hv : ∃ a len cap, v = .slice a len cap) (h : DataW.Trod enc P W 0 (fun _ => true) true t v d p) :
    ∃ n R, Structs W v n fks R ∧ ∀ i, i < n → ∀ (j : Nat) (fk : FK), fks[j]? = some fk → fk.ok (R i j) := by
  obtain ⟨a0, len0, cap0, rfl⟩ := hv
  obtain ⟨fuel, hf⟩ := h
  rcases open_slice ht hf with ⟨hcs, _⟩ | ⟨a, len, cap, m, n, D, Pl, hcs, _, hl, hm, hmm, _, hi⟩
  · simp [Value.cells] at hcs
    obtain ⟨rfl, rfl, rfl⟩ := hcs
    exact ⟨0, fun _ _ => undef, .inl ⟨rfl, _, _, rfl⟩, fun i hi => by omega⟩
  · simp [Value.cells] at hcs
    obtain ⟨rfl, rfl, rfl⟩ := hcs
    simp only [if_true] at hmm
    by_cases h0 : len0 = 0
    · subst h0
      exact ⟨0, fun _ _ => undef, .inl ⟨rfl, _, _, rfl⟩, fun i hi => by omega⟩
    · have key : ∀ i, i < len0 → ∀ j, j < fs.size → ∃ u, W.cell? (a.add (i * fs.size + j)) = some u ∧ ∀ (fk : FK), fks[j]? = some fk → fk.ok u := by
        intro i hil j hj
        obtain ⟨cs', hc, ht'⟩ := hi i (by omega)
        obtain ⟨_, hcl, hat⟩ := World.cells?_some hc
        obtain ⟨ys, n', _, _, _, hyl, hfld⟩ := DataW.trod_struct he ht'
        rw [hC] at hcl hat
        obtain ⟨f, hfj⟩ : ∃ f, fs[j]? = some f := ⟨fs[j], by simp [hj]⟩
        obtain ⟨ho, hk⟩ := hone_of hone j f hfj
        have h1 := hfld j f hfj
        rw [ho, hk] at h1
        have hjl : j < cs'.length := by omega
        rw [List.drop_eq_getElem_cons hjl] at h1
        have hys : ys[j]? = some (ys[j]'(by omega)) := List.getElem?_eq_getElem (by omega)
        rw [hys] at h1
        refine ⟨cs'[j], ?_, fun fk hfkj => FK.of_trod (hty j f fk hfj hfkj) h1⟩
        have := hat j hj
        rw [Go.Deep.add_add] at this
        rw [this]
        exact List.getElem?_eq_getElem hjl
      have key2 : ∃ R : Nat → Nat → Value, ∀ i, i < len0 → ∀ j, j < fs.size → W.cell? (a.add (i * fs.size + j)) = some (R i j) ∧ ∀ (fk : FK), fks[j]? = some fk → fk.ok (R i j) := by
        have : ∀ i j, ∃ u, i < len0 → j < fs.size → W.cell? (a.add (i * fs.size + j)) = some u ∧ ∀ (fk : FK), fks[j]? = some fk → fk.ok u := fun i j => by
          by_cases hh : i < len0 ∧ j < fs.size
          · obtain ⟨u, hu⟩ := key i hh.1 j hh.2
            exact ⟨u, fun _ _ => hu⟩
          · exact ⟨undef, fun h1 h2 => (hh ⟨h1, h2⟩).elim⟩
        refine ⟨fun i j => (this i j).choose, fun i hi j hj => (this i j).choose_spec hi hj⟩
      obtain ⟨R, hR⟩ := key2
      have h00 := (hR 0 (by omega) 0 hpos).1
      have hs := World.cell?_spot h00
      obtain ⟨b, off, spot⟩ := a
      simp [Addr.add] at hs
      subst hs
      rw [add_plain] at h00
      refine ⟨len0, R, .inr ⟨by omega, b, off, cap0, rfl, hl, hm, cell_lt h00, fun i hi j hj => ?_⟩, fun i hi j fk hj => ?_⟩
      · have := (hR i hi j (by omega)).1
        rw [add_plain] at this
        rw [hfk]
        exact this
      · have hjl : j < fks.length := (List.getElem?_eq_some_iff.1 hj).1
        exact (hR i hi j (by omega)).2 fk hj
end
end Go.Proofs.Ytjmbjlijkohkfaa.lift
