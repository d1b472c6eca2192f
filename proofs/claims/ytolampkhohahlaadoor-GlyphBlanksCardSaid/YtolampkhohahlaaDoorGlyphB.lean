/- What is said of bytes, of entries, and of rows of entries in memory, over this seat's program. -/
import Derived.Test.YtolampkhohahlaaDoorGlyphS
import Derived.Test.YtolampkhohahlaaDoorFrame
import Derived.Test.YtolampkhohahlaaDoorOwn
import Derived.Handy
import Derived.BigQuiet
import Derived.Deep.AppendLies
import Derived.Laws.BytesArg
namespace Go.Proofs.YtolampkhohahlaaDoor.g3
open Go.ChangeShapes Go.WideShapes Go.ChangeAt Go.RowKit frame lift gl own
set_option linter.unusedVariables false
/-- A text's bytes. -/
def bytes (s : ByteArray) : Bs := s.data.toList.map fun b => (b.toNat : Int)
theorem bytes_len (s : ByteArray) : (bytes s).length = s.size := by simp [bytes]
theorem bytes_at (s : ByteArray) (i : Nat) (h : i < s.size) : bt (bytes s) i = (s[i].toNat : Int) := by
  have h' : i < s.data.toList.length := by simpa using h
  have e : (bytes s)[i]? = some ((s.data.toList[i].toNat : Int)) := by
    have h2 : s.data[i]? = some s.data[i] := Array.getElem?_eq_getElem (by simpa using h)
    simp [bytes, h2]
  unfold bt
  rw [List.getD, e]
  rfl
theorem byte_bd (s : ByteArray) (i : Nat) (h : i < s.size) : 0 ≤ (s[i].toNat : Int) ∧ (s[i].toNat : Int) ≤ 255 := by
  have := s[i].toNat_lt
  omega
theorem drewN_below {B : Nat} {w u : World} (h : Below B u w) (n : Nat) : Below B u (w.drewN n) := h.trans ⟨rfl, rfl, rfl, Nat.le_refl _, fun _ _ => rfl⟩
theorem info64 : (Tryd.prog.info? 47).map (fun i => (i.zero, i.size, i.bytes)) = some (some (.int .u64 0), 1, 8) := by kernel_rfl
theorem bytes_extract (s : ByteArray) (a b : Nat) : bytes (s.extract a b) = ((bytes s).take b).drop a := by
  unfold bytes
  rw [ByteArray.data_extract, Array.toList_extract, List.extract_eq_take_drop, List.map_take, List.map_drop, List.drop_take]
theorem drop_cons {s : ByteArray} {k : Nat} (hlt : k < s.size) : (bytes s).drop k = (s[k].toNat : Int) :: (bytes s).drop (k + 1) := by
  have hl := bytes_len s
  have hkl : k < (bytes s).length := by omega
  rw [List.drop_eq_getElem_cons hkl]
  congr 1
  have e := bytes_at s k hlt
  simpa [bt, List.getD, hkl] using e
theorem take_snoc {s : ByteArray} {f k : Nat} (hlt : k < s.size) (hf : f ≤ k) : ((bytes s).take (k + 1)).drop f = ((bytes s).take k).drop f ++ [(s[k].toNat : Int)] := by
  have hl := bytes_len s
  have hkl : k < (bytes s).length := by omega
  have e : (bytes s)[k] = (s[k].toNat : Int) := by
    have e := bytes_at s k hlt
    simpa [bt, List.getD, hkl] using e
  rw [List.take_succ_eq_append_getElem hkl, e, List.drop_append_of_le_length (by rw [List.length_take]; omega)]
theorem own_nil (w : World) (B : Nat) (e : TypeId) (k : IntKind) : Own w B e k (.slice none 0 0) [] := World.ownsRow_nil w B e 1
theorem infoE : (Tryd.prog.info? 49).map (fun i => (i.zero, i.size, i.bytes)) = some (some (.agg #[.int .i64 0, .slice none 0 0, .bool false, .int .i64 0]), 4, 48) := by kernel_rfl
/-- An entry's cells; its numbers lie in the slice p.1. -/
def encE (p : Value × Ent) : List Value := [.int .i64 p.2.op, p.1, .bool p.2.ok, .int .i64 p.2.at_]
theorem encE_len (p : Value × Ent) : (encE p).length = 4 := rfl
theorem encE_one (p : Value × Ent) (h : ∃ a n c, p.1 = .slice a n c) : ∀ u ∈ encE p, u.oneCell' = true := by
  obtain ⟨a, n, c, h⟩ := h
  intro u hu
  simp only [encE, h, List.mem_cons, List.not_mem_nil, or_false] at hu
  rcases hu with rfl | rfl | rfl | rfl <;> rfl
theorem newsE (w : World) {p : Value × Ent} (l : List Value) (hl : l = encE p) : ∀ j u, (encE p)[j]? = some u → (w.alloc (Obj.cells l.toArray 49)).cell? ((⟨w.heap.size, 0, none⟩ : Addr).add j) = some u := by
  subst hl
  exact fun j u hu => World.news_of_block (heap_alloc_new w _) j u (by simpa using hu)
/-- Entries of the call's own, from block B on. -/
def OwnEnts (w : World) (B : Nat) (v : Value) (ps : List (Value × Ent)) : Prop :=
  w.ownsRow B 49 4 v ps.length (ps.flatMap encE) ∧ ∀ p ∈ ps, Own w B 47 .u64 p.1 p.2.args
theorem OwnEnts.below {w w' : World} {B : Nat} {v : Value} {ps : List (Value × Ent)} (h : OwnEnts w B v ps) (hb : Below w.heap.size w w') : OwnEnts w' B v ps := by
  refine ⟨?_, fun p hp => (h.2 p hp).below hb⟩
  obtain ⟨h1, h2 | ⟨g, cap, cur, hv, hg, hh, r⟩⟩ := h.1
  · exact ⟨h1, .inl h2⟩
  · exact ⟨h1, .inr ⟨g, cap, cur, hv, hg, by rw [hb.block g (Array.getElem?_eq_some_iff.1 hh).1]; exact hh, r⟩⟩
theorem ents_push {wx w3 : World} {B : Nat} {v v' av : Value} {ps : List (Value × Ent)} {e : Ent} {o : Obj} (h : OwnEnts wx B v ps) (ha : Own wx B 47 .u64 av e.args)
    (hown : w3.ownsRow B 49 4 v' (ps.length + 1) (ps.flatMap encE ++ encE (av, e))) (hg : (wx.alloc o).grownBy w3 v.ownBlock) : OwnEnts w3 B v' (ps ++ [(av, e)]) := by
  have keep : ∀ {u : Value} {l : List Int}, Own wx B 47 .u64 u l → Own w3 B 47 .u64 u l := fun {u l} hu => by
    have hu' : Own (wx.alloc o) B 47 .u64 u l := hu.alloc o
    refine World.ownsRow.kept hu' hg ?_
    cases hb : u.ownBlock with
    | none => exact .inl rfl
    | some g =>
      refine .inr fun e => ?_
      obtain ⟨c1, hc1⟩ := ownsRow_elem hu hb
      obtain ⟨c2, hc2⟩ := ownsRow_elem h.1 e.symm
      rw [hc1] at hc2
      simp at hc2
  refine ⟨by simpa using hown, fun p hp => ?_⟩
  rcases List.mem_append.1 hp with hp | hp
  · exact keep (h.2 p hp)
  · simp at hp
    subst hp
    exact keep ha
theorem own_mono {w : World} {B B' : Nat} {e : TypeId} {k : IntKind} {v : Value} {l : List Int} (h : Own w B e k v l) (hB : B' ≤ B) : Own w B' e k v l := by
  obtain ⟨h1, h2 | ⟨g, cap, cur, hv, hg, r⟩⟩ := h
  · exact ⟨h1, .inl h2⟩
  · exact ⟨h1, .inr ⟨g, cap, cur, hv, Nat.le_trans hB hg, r⟩⟩
theorem own_form {w : World} {B : Nat} {e : TypeId} {k : IntKind} {v : Value} {l : List Int} (h : Own w B e k v l) : ∃ a n c, v = .slice a n c := by
  rcases h.2 with ⟨rfl, _⟩ | ⟨g, cap, cur, rfl, _⟩
  · exact ⟨_, _, _, rfl⟩
  · exact ⟨_, _, _, rfl⟩
/-- A text of those bytes. -/
def StrPost (w : World) (L : Bs) (e : Ending) (w' : World) : Prop := Below w.heap.size w w' ∧ ∃ t, e = .returned (.string t) ∧ bytes t = L
def Byt (b : Int) : Prop := 0 ≤ b ∧ b ≤ 255
theorem bytes_nums (xs : List Int) (h : ∀ b ∈ xs, Byt b) : bytes (strOfNums xs) = xs := by
  unfold bytes
  rw [strOfNums_data, List.map_map]
  conv => rhs; rw [← List.map_id xs]
  apply List.map_congr_left
  intro b hb
  obtain ⟨h0, h1⟩ := h b hb
  have : (UInt8.ofNat b.toNat).toNat = b.toNat := by
    rw [UInt8.toNat_ofNat']
    omega
  show ((UInt8.ofNat b.toNat).toNat : Int) = b
  rw [this]
  omega
theorem bytes_app (a b : ByteArray) : bytes (a ++ b) = bytes a ++ bytes b := by
  unfold bytes
  rw [ByteArray.data_append, Array.toList_append, List.map_append]
def digS (k : Nat) : ByteArray := ⟨#[UInt8.ofNat (48 + k)]⟩
theorem digS_bytes (k : Nat) (hk : k ≤ 9) : bytes (digS k) = [48 + (k : Int)] := by
  unfold bytes digS
  simp
  omega
/-- Entries that can be read. -/
def REnts (w : World) (v : Value) (l : List Ent) : Prop :=
  (l = [] ∧ ∃ (a : Option Addr) (cap : Nat), v = .slice a 0 cap) ∨
  (0 < l.length ∧ ∃ (g o cap : Nat), v = .slice (some ⟨g, o, none⟩) l.length cap ∧ l.length ≤ cap ∧ cap ≤ maxLen ∧ g < w.heap.size ∧
    ∀ (i : Nat) (h : i < l.length), ∃ av, w.cell? ⟨g, o + i * 4, none⟩ = some (.int .i64 l[i].op) ∧ w.cell? ⟨g, o + i * 4 + 1, none⟩ = some av ∧ w.cell? ⟨g, o + i * 4 + 2, none⟩ = some (.bool l[i].ok) ∧
      w.cell? ⟨g, o + i * 4 + 3, none⟩ = some (.int .i64 l[i].at_) ∧ Ints w .u64 av l[i].args)
theorem REnts.below {w w' : World} {v : Value} {l : List Ent} (h : REnts w v l) (hb : Below w.heap.size w w') : REnts w' v l := by
  rcases h with h | ⟨h0, g, o, cap, h1, h2, h3, h4, h5⟩
  · exact .inl h
  · refine .inr ⟨h0, g, o, cap, h1, h2, h3, Nat.lt_of_lt_of_le h4 hb.size, fun i hi => ?_⟩
    obtain ⟨av, d0, d1, d2, d3, d4⟩ := h5 i hi
    have t : ∀ j, w'.cell? ⟨g, j, none⟩ = w.cell? ⟨g, j, none⟩ := fun j => hb.cell (p := ⟨g, j, none⟩) h4
    exact ⟨av, (t _).trans d0, (t _).trans d1, (t _).trans d2, (t _).trans d3, d4.below hb⟩
/-- Entries of the call's own can be read. -/
theorem row_reads {w : World} {B : Nat} {v : Value} {ps : List (Value × Ent)} (h : w.ownsRow B 49 4 v ps.length (ps.flatMap encE)) (hI0 : ∀ p ∈ ps, Ints w .u64 p.1 p.2.args) : REnts w v (ps.map (·.2)) := by
  by_cases h0 : 0 < ps.length
  · have hr : RowOf w (fun _ => True) 49 4 v ps.length (ps.flatMap encE) := by
      refine ⟨⟨h.1, ?_⟩, fun _ _ => trivial⟩
      rcases h.2 with h | ⟨g, cap, cur, hv, _, r⟩
      · exact .inl h
      · exact .inr ⟨g, cap, cur, hv, Nat.zero_le _, r⟩
    obtain ⟨g, cap, rfl, _, hlt, h1, h2, hc, _⟩ := hr.at_ h0
    refine .inr ⟨by simpa using h0, g, 0, cap, by simp, by simpa using h1, h2, hlt, fun i hi => ?_⟩
    have hi' : i < ps.length := by simpa using hi
    have hcell (f : Nat) (hf : f < 4) : w.cell? ⟨g, 0 + i * 4 + f, none⟩ = (encE ps[i])[f]? := by
      rw [Nat.zero_add, hc (i * 4 + f) (by omega)]
      have hgen : ∀ (l : List (Value × Ent)) (i : Nat) (hi : i < l.length), (l.flatMap encE)[i * 4 + f]? = (encE l[i])[f]? := by
        intro l
        induction l with
        | nil => intro i hi; simp at hi
        | cons p l ih =>
          intro i hi
          rw [List.flatMap_cons]
          cases i with
          | zero =>
            rw [Nat.zero_mul, Nat.zero_add, List.getElem?_append_left (by rw [encE_len]; exact hf)]
            rfl
          | succ i =>
            rw [List.getElem?_append_right (by rw [encE_len]; omega), encE_len, show (i + 1) * 4 + f - 4 = i * 4 + f by omega]
            exact ih i (by simpa using hi)
      exact hgen ps i hi'
    have hI : Ints w .u64 ps[i].1 ps[i].2.args := hI0 ps[i] (List.getElem_mem hi')
    refine ⟨ps[i].1, ?_, ?_, ?_, ?_, ?_⟩
    · simpa [encE] using hcell 0 (by decide)
    · simpa [encE] using hcell 1 (by decide)
    · simpa [encE] using hcell 2 (by decide)
    · simpa [encE] using hcell 3 (by decide)
    · simpa using hI
  · have e : ps = [] := List.eq_nil_of_length_eq_zero (by omega)
    subst e
    refine .inl ⟨rfl, ?_⟩
    rcases h.2 with ⟨hn, _⟩ | ⟨g', cap', _, hv, _⟩
    · exact ⟨_, _, hn⟩
    · exact ⟨_, _, hv⟩
theorem own_ints {w : World} {B : Nat} {e : TypeId} {v : Value} {l : List Int} (hA : Own w B e .u64 v l) : Ints w .u64 v l := by
  by_cases ha : 0 < l.length
  · obtain ⟨g', cap', hv, _, hlt', hn', hc'⟩ := hA.at_ ha
    have hmx : cap' ≤ maxLen := by
      rcases hA.2 with ⟨hn, _⟩ | ⟨_, _, _, hv2, _, _, _, hm, _⟩
      · rw [hv] at hn; simp at hn
      · rw [hv] at hv2; simp at hv2; omega
    exact .inr ⟨ha, g', 0, cap', hv, hn', hmx, hlt', fun j hj => by rw [Nat.zero_add]; exact hc' j hj⟩
  · have e : l = [] := List.eq_nil_of_length_eq_zero (by omega)
    refine .inl ⟨e, ?_⟩
    rcases hA.2 with ⟨hn, _⟩ | ⟨g', cap', _, hv, _⟩
    · exact ⟨_, _, hn⟩
    · rw [e] at hv; exact ⟨_, _, hv⟩
theorem OwnEnts.reads {w : World} {B : Nat} {v : Value} {ps : List (Value × Ent)} (h : OwnEnts w B v ps) : REnts w v (ps.map (·.2)) := row_reads h.1 (fun p hp => own_ints (h.2 p hp))
/-- Entries of package glyph that can be read. -/
def GEnts (w : World) (v : Value) (l : List Ent) : Prop :=
  (l = [] ∧ ∃ (a : Option Addr) (cap : Nat), v = .slice a 0 cap) ∨
  (0 < l.length ∧ ∃ (g o cap : Nat), v = .slice (some ⟨g, o, none⟩) l.length cap ∧ l.length ≤ cap ∧ cap ≤ maxLen ∧ g < w.heap.size ∧
    ∀ (i : Nat) (h : i < l.length), ∃ av, w.cell? ⟨g, o + i * 4, none⟩ = some (.int .i32 l[i].op) ∧ w.cell? ⟨g, o + i * 4 + 1, none⟩ = some av ∧ w.cell? ⟨g, o + i * 4 + 2, none⟩ = some (.bool l[i].ok) ∧
      w.cell? ⟨g, o + i * 4 + 3, none⟩ = some (.int .i64 l[i].at_) ∧ Ints w .u64 av l[i].args)
end Go.Proofs.YtolampkhohahlaaDoor.g3
