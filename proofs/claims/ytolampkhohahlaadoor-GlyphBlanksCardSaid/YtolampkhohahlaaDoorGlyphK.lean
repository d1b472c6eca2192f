/- Contract of package glyph: Parse, over this seat's program. -/
import Derived.Test.YtolampkhohahlaaDoorGlyphJ
import Derived.Test.YtolampkhohahlaaDoorGlyphV
namespace Go.Proofs.YtolampkhohahlaaDoor.gl
/-- An entry is open at i: it began at at0, and its rune's bytes, and the numbers' bytes X, are read. -/
structure OpenS (L : Bs) (ps : List Ent) (r0 : Int) (at0 n0 i : Nat) (X : Bs) : Prop where
  par : parseAt 0 L = ps ++ parseAt at0 (L.drop at0)
  lt : at0 < L.length
  run : rune (L.drop at0) = (r0, n0)
  nb : blank r0 = false
  le : at0 + n0 ≤ i
  len : X.length = i - (at0 + n0)
  num : nums (L.drop (at0 + n0)) = X ++ nums (L.drop i)
theorem open_start {L : Bs} {ps : List Ent} {r : Int} {i n : Nat} (h : parseAt 0 L = ps ++ parseAt i (L.drop i)) (hi : i < L.length) (hr : rune (L.drop i) = (r, n)) (hb : blank r = false) : OpenS L ps r i n (i + n) [] :=
  ⟨h, hi, hr, hb, Nat.le_refl _, by simp, rfl⟩
theorem OpenS.all {L : Bs} {ps : List Ent} {r0 : Int} {at0 n0 i : Nat} {X : Bs} (h : OpenS L ps r0 at0 n0 i X) : ∀ b ∈ X, numb b = true := fun b hb => nums_all (L.drop (at0 + n0)) b (by rw [h.num]; exact List.mem_append_left _ hb)
theorem rune_byte (b : Int) (L : Bs) (hb : numb b = true) : rune (b :: L) = (b, 1) := by
  refine rune_small b ?_ L
  unfold numb at hb
  simp at hb
  omega
theorem numb_rune {b : Int} {L : Bs} (h : numb (rune (b :: L)).1 = true) : numb b = true := by
  by_cases hb : b < 128
  · rw [rune_small b hb] at h; exact h
  · exfalso
    have e : bt (b :: L) 0 = b := by simp [bt]
    have nb : ∀ x : Int, 128 ≤ x → ¬ numb x = true := fun x hx h => by unfold numb at h; simp at h; omega
    revert h
    unfold rune
    dsimp only
    rw [e, if_neg hb]
    split
    · cases h1 : inn (b :: L) 1 128 191 with
      | false => exact nb _ (by simp)
      | true =>
        unfold inn at h1
        simp at h1
        exact nb _ (by simp; omega)
    · split
      · cases h1 : (inn (b :: L) 1 (lo2 b) (hi2 b) && inn (b :: L) 2 128 191) with
        | false => exact nb _ (by simp)
        | true =>
          unfold inn at h1
          simp at h1
          have h2 := lo2_ge b
          have h3 : b = 224 → lo2 b = 160 := fun e => by unfold lo2; rw [if_pos e]
          exact nb _ (by simp; omega)
      · split
        · cases h1 : (inn (b :: L) 1 (lo3 b) (hi3 b) && inn (b :: L) 2 128 191 && inn (b :: L) 3 128 191) with
          | false => exact nb _ (by simp)
          | true =>
            unfold inn at h1
            simp at h1
            have h2 := lo3_ge b
            have h3 : b = 240 → lo3 b = 144 := fun e => by unfold lo3; rw [if_pos e]
            exact nb _ (by simp; omega)
        · exact nb _ (by simp)
theorem open_num {L : Bs} {ps : List Ent} {r0 r : Int} {at0 n0 i n : Nat} {X : Bs} (h : OpenS L ps r0 at0 n0 i X) (hi : i < L.length) (hr : rune (L.drop i) = (r, n)) (hn : numb r = true) : n = 1 ∧ OpenS L ps r0 at0 n0 (i + 1) (X ++ [r]) := by
  have hd : L.drop i = L[i] :: L.drop (i + 1) := List.drop_eq_getElem_cons hi
  rw [hd] at hr
  have hb : numb L[i] = true := numb_rune (by rw [hr]; exact hn)
  rw [rune_byte _ _ hb] at hr
  simp only [Prod.mk.injEq] at hr
  obtain ⟨rfl, rfl⟩ := hr
  refine ⟨rfl, h.par, h.lt, h.run, h.nb, by have := h.le; omega, by have := h.len; have := h.le; simp; omega, ?_⟩
  rw [h.num, hd]
  conv => lhs; unfold nums
  rw [List.takeWhile_cons, hb]
  simp [nums]
theorem open_end {L : Bs} {ps : List Ent} {r0 : Int} {at0 n0 i : Nat} {X : Bs} (h : OpenS L ps r0 at0 n0 i X) (hi : L.length ≤ i ∨ numb (rune (L.drop i)).1 = false) :
    parseAt 0 L = (ps ++ [entOf r0 (args X) at0]) ++ parseAt i (L.drop i) := by
  have hz : nums (L.drop i) = [] := by
    by_cases hl : i < L.length
    · have hd : L.drop i = L[i] :: L.drop (i + 1) := List.drop_eq_getElem_cons hl
      cases hb : numb L[i] with
      | true =>
        rcases hi with hi | hi
        · omega
        · rw [hd, rune_byte _ _ hb, hb] at hi
          cases hi
      | false =>
        unfold nums
        rw [hd, List.takeWhile_cons, hb]
        rfl
    · rw [List.drop_eq_nil_of_le (by omega)]
      rfl
  have hne : L.drop at0 ≠ [] := fun e => by
    have := congrArg List.length e
    rw [List.length_drop, List.length_nil] at this
    have := h.lt
    omega
  have hX := h.num
  rw [hz, List.append_nil] at hX
  have hp := parseAt_entry at0 _ hne (by rw [h.run]; exact h.nb)
  rw [h.run] at hp
  dsimp only at hp
  rw [List.drop_drop, List.drop_drop, hX] at hp
  have hl := h.len; have hle := h.le
  rw [h.par, hp, List.append_assoc]
  congr 2
  rw [show at0 + n0 + X.length = i by omega, show at0 + (n0 + X.length) = i by omega]
  rfl
end Go.Proofs.YtolampkhohahlaaDoor.gl
namespace Go.Proofs.YtolampkhohahlaaDoor.g3
open Go.ChangeShapes Go.WideShapes Go.ChangeAt Go.RowKit frame lift gl own
set_option linter.unusedVariables false
theorem iterAt_other (w : World) (k : Nat) (s : ByteArray) (p j : Nat) (h : j ≠ k) : (w.iterAt k s p).heap[j]? = w.heap[j]? := by
  unfold World.iterAt
  rw [Array.getElem?_setIfInBounds]
  rw [if_neg (fun e => h e.symm)]
theorem iterAt_size (w : World) (k : Nat) (s : ByteArray) (p : Nat) : (w.iterAt k s p).heap.size = w.heap.size := by simp [World.iterAt]
theorem row_iterAt {w : World} {B : Nat} {e : TypeId} {size : Nat} {v : Value} {n : Nat} {xs : List Value} (h : w.ownsRow B e size v n xs) {k : Nat} (hk : k < B) (s : ByteArray) (p : Nat) : (w.iterAt k s p).ownsRow B e size v n xs := by
  obtain ⟨h1, h2 | ⟨g, cap, cur, hv, hg, hh, r⟩⟩ := h
  · exact ⟨h1, .inl h2⟩
  · exact ⟨h1, .inr ⟨g, cap, cur, hv, hg, by rw [iterAt_other _ _ _ _ _ (by omega)]; exact hh, r⟩⟩
theorem OwnG.iterAt {w : World} {B : Nat} {v : Value} {ps : List (Value × Ent)} (h : OwnG w B v ps) {k : Nat} (hk : k < B) (s : ByteArray) (p : Nat) : OwnG (w.iterAt k s p) B v ps :=
  ⟨row_iterAt h.1 hk s p, fun q hq => row_iterAt (h.2 q hq) hk s p⟩
theorem RdV.iterAt {w : World} {m : Nat} {op : Int} {at_ : Nat} {more : Bool} {x : Rd} {av : Value} (h : RdV w m op at_ more x av) {k : Nat} (hk : k < m) (s : ByteArray) (p : Nat) : RdV (w.iterAt k s p) m op at_ more x av :=
  ⟨by rw [iterAt_other _ _ _ _ _ (by omega)]; exact h.blk, row_iterAt h.own (by omega) s p⟩
theorem below_iterAt2 {N : Nat} {a b : World} (h : Below N a b) (k : Nat) (hk : k < a.heap.size) (s : ByteArray) (p : Nat) : Below N (a.iterAt k s p) (b.iterAt k s p) := by
  refine ⟨h.os, h.tape, h.output, by rw [iterAt_size, iterAt_size]; exact h.size, fun j hj => ?_⟩
  by_cases hjk : j = k
  · subst hjk
    have := h.size
    simp only [World.iterAt, Array.getElem?_setIfInBounds, if_true]
    rw [if_pos hk, if_pos (by omega)]
  · rw [iterAt_other _ _ _ _ _ hjk, iterAt_other _ _ _ _ _ hjk]
    exact h.block j hj
theorem below_iterAt {N : Nat} {a b : World} (h : Below N a b) (k : Nat) (hk : N ≤ k) (s : ByteArray) (p : Nat) : Below N a (b.iterAt k s p) := by
  refine ⟨h.os, h.tape, h.output, by rw [iterAt_size]; exact h.size, fun j hj => ?_⟩
  rw [iterAt_other _ _ _ _ _ (by omega)]
  exact h.block j hj
/-- What is known ahead of each rune. -/
def GClosed (w : World) (s : ByteArray) (i : Nat) (l : Value) (wr : World) : Prop := ∃ ps : List (Value × Ent), ps.length ≤ i ∧ OwnG wr (w.heap.size + 1) l ps ∧ parseAt 0 (bytes s) = ps.map (·.2) ++ parseAt i ((bytes s).drop i)
structure GOpen (w : World) (s : ByteArray) (i : Nat) (l : Value) (m : Nat) (wr wm : World) (ps : List (Value × Ent)) (r0 : Int) (at0 n0 : Nat) (X : Bs) (av : Value) : Prop where
  len : ps.length ≤ at0
  own : OwnG wm (w.heap.size + 1) l ps
  base : w.heap.size + 1 ≤ wm.heap.size
  le : wm.heap.size ≤ m
  bel : Below wm.heap.size wm wr
  rd : RdV wr m r0 at0 (!X.isEmpty) (rdOf (!numb r0) X) av
  opn : OpenS (bytes s) (ps.map (·.2)) r0 at0 n0 i X
def GRel (w : World) (s : ByteArray) (i : Nat) (l o : Value) (wr : World) : Prop :=
  i ≤ s.size ∧ wr.heap[w.heap.size]? = some (.stringIter s i) ∧ Below w.heap.size w wr ∧
    ((o = .pointer none ∧ GClosed w s i l wr) ∨ ∃ m wm ps r0 at0 n0 X av, o = .pointer (some ⟨m, 0, none⟩) ∧ GOpen w s i l m wr wm ps r0 at0 n0 X av)
theorem GOpen.iterAt {w : World} {s : ByteArray} {i : Nat} {l : Value} {m : Nat} {wr wm : World} {ps : List (Value × Ent)} {r0 : Int} {at0 n0 : Nat} {X : Bs} {av : Value} (h : GOpen w s i l m wr wm ps r0 at0 n0 X av) (p : Nat) :
    GOpen w s i l m (wr.iterAt w.heap.size s p) (wm.iterAt w.heap.size s p) ps r0 at0 n0 X av :=
  ⟨h.len, h.own.iterAt (by omega) s p, by rw [iterAt_size]; exact h.base, by rw [iterAt_size]; exact h.le, by rw [iterAt_size]; exact below_iterAt2 h.bel _ (by have := h.base; omega) s p, h.rd.iterAt (by have := h.base; have := h.le; omega) s p, h.opn⟩
/-- An open entry, closed. -/
theorem close_open {w : World} {s : ByteArray} {i : Nat} {l : Value} {m : Nat} {wr wm : World} {ps : List (Value × Ent)} {r0 : Int} {at0 n0 : Nat} {X : Bs} {av : Value} (hs : s.size ≤ 1000000) (h : GOpen w s i l m wr wm ps r0 at0 n0 X av) (hi : i ≤ s.size) (hend : s.size ≤ i ∨ numb (rune ((bytes s).drop i)).1 = false) :
    Calls Tryd.prog 26 #[l, .pointer (some ⟨m, 0, none⟩)] wr fun e w' => ∃ v', e = .returned v' ∧ GClosed w s i v' w' ∧ Below (w.heap.size + 1) wr w' := by
  have hall := h.opn.all
  obtain ⟨_, hal, _⟩ := rd_u64 (!numb r0) X hall
  have hl := h.opn.len; have hle := h.opn.le; have hlt := h.opn.lt; have hpl := h.len
  have hn := rune_pos ((bytes s).drop at0)
  rw [h.opn.run] at hn
  rw [bytes_len] at hlt
  dsimp only at hn
  refine (closed_some h.own h.le h.bel h.base h.rd (by omega) (by omega)).mono ?_
  rintro e w' ⟨v', p, rfl, hO, hp, hb⟩
  refine ⟨v', rfl, ⟨ps ++ [p], by simp; omega, hO, ?_⟩, hb⟩
  rw [open_end h.opn (by rw [bytes_len]; exact hend), List.map_append, List.map_singleton, hp, rd_done r0 at0 X hall]
  rfl
theorem OwnG.mono {w : World} {B B' : Nat} {v : Value} {ps : List (Value × Ent)} (h : OwnG w B v ps) (hB : B' ≤ B) : OwnG w B' v ps := by
  refine ⟨?_, fun p hp => own_mono (h.2 p hp) hB⟩
  obtain ⟨h1, h2 | ⟨g, cap, cur, hv, hg, r⟩⟩ := h.1
  · exact ⟨h1, .inl h2⟩
  · exact ⟨h1, .inr ⟨g, cap, cur, hv, Nat.le_trans hB hg, r⟩⟩
def GParsePost (w : World) (L : Bs) (e : Ending) (w' : World) : Prop := Below w.heap.size w w' ∧ ∃ v ps, e = .returned v ∧ OwnG w' w.heap.size v ps ∧ ps.map (·.2) = parse L
set_option maxRecDepth 100000 in
set_option maxHeartbeats 4000000 in
theorem gparse_any {s : ByteArray} (hs : s.size ≤ 1000000) (w : World) : Calls Tryd.prog 13 #[.string s] w (GParsePost w (bytes s)) := by
  go_enter Tryd.func13, Tryd.ntmps13
  go_wp2_with fail
  go_loopw [3, 4] (fun l o wr => ∃ i, GRel w s i l o wr) (fun _ _ wr => s.size - wr.iterPos w.heap.size)
  case atStart => exact ⟨0, Nat.zero_le _, World.iter_heap w s 0, (Below.refl _ _).alloc (Nat.le_refl _) _, .inl ⟨rfl, [], Nat.le_refl _, ⟨World.ownsRow_nil _ _ _ _, fun p hp => by simp at hp⟩, rfl⟩⟩
  case round =>
    obtain ⟨i, hi, hit, hbw, hcase⟩ := hrel
    have hm0 : wr.iterPos w.heap.size = i := by simp [World.iterPos, hit]
    rw [hm0]
    clear hm0
    by_cases hlt : i < s.size
    · obtain ⟨r, hr1⟩ : ∃ r, (rune ((bytes s).drop i)).1 = r := ⟨_, rfl⟩
      obtain ⟨n, hr2⟩ : ∃ n, (rune ((bytes s).drop i)).2 = n := ⟨_, rfl⟩
      have hr : rune ((bytes s).drop i) = (r, n) := by rw [← hr1, ← hr2]
      have hdne : (bytes s).drop i ≠ [] := fun e => by
        have := congrArg List.length e
        rw [List.length_drop, bytes_len, List.length_nil] at this
        omega
      have hn1 := rune_pos ((bytes s).drop i)
      have hn2 := rune_le ((bytes s).drop i) (List.length_pos_iff.2 hdne)
      rw [List.length_drop, bytes_len, hr2] at hn2
      rw [hr2] at hn1
      have hpb := parseAt_blank i _ hdne
      rw [hr, List.drop_drop] at hpb
      dsimp only at hpb
      have hnx := fun ty => Go.Lib.run_next_any_at (P := Tryd.prog) wr w.heap.size s i ty hit hlt
      rw [(decode_rune s i hlt).1, (decode_rune s i hlt).2, hr1, hr2] at hnx
      have hit1 := Go.Lib.iterAt_heap wr w.heap.size s i (i + n) hit
      have hbw1 := below_iterAt hbw w.heap.size (Nat.le_refl _) s (i + n)
      have HR := Lib.hid hr
      have HPB := Lib.hid hpb
      clear hr hr1 hr2 hpb hdne hbw hit
      rcases hcase with ⟨rfl, ps, hps, hown, hpar⟩ | ⟨m, wm, ps, r0, at0, n0, X, av, rfl, hG⟩
      · have hown1 := hown.iterAt (k := w.heap.size) (by omega) s (i + n)
        generalize wr.iterAt w.heap.size s (i + n) = w1 at hnx hit1 hbw1 hown1
        have HO := Lib.hid hown1
        have HP := Lib.hid hpar
        have HI := Lib.hid hit1
        clear hown hown1 hpar hit1
        go_wp2_with fail
        refine (isBlank_any r w1).mono ?_
        rintro e w2 ⟨he, rfl⟩
        cases hbl : gl.blank r with
        | true =>
          rw [hbl] at he
          subst he
          have HQ : Hid (parseAt 0 (bytes s) = ps.map (·.2) ++ parseAt (i + n) ((bytes s).drop (i + n))) := by
            unfold Hid
            rw [HP.out, HPB.out hbl]
          clear hbl
          go_wp2_with fail
          refine (closed_nil u3 w1).mono ?_
          rintro e w2 ⟨rfl, rfl⟩
          go_wp2_with fail
          go_roundw
          case rel => exact ⟨i + n, by omega, HI.out, hbw1, .inl ⟨rfl, ps, by omega, HO.out, HQ.out⟩⟩
          case measure =>
            have h := HI.out
            simp [World.iterPos, h]
            omega
        | false =>
          rw [hbl] at he
          subst he
          have HQ := Lib.hid (open_start HP.out (by rw [bytes_len]; exact hlt) HR.out hbl)
          clear hbl
          go_wp2_with fail
          refine (closed_nil u3 w1).mono ?_
          rintro e w2 ⟨rfl, rfl⟩
          go_wp2_with fail
          refine (begun_any r i w1).mono ?_
          rintro e w2 ⟨rfl, hrd, hb2⟩
          have hkl : w.heap.size < w1.heap.size := (Array.getElem?_eq_some_iff.1 HI.out).1
          have HB2 := Lib.hid hb2
          have HI2 : Hid (w2.heap[w.heap.size]? = some (.stringIter s (i + n))) := by unfold Hid; rw [hb2.block _ hkl]; exact HI.out
          have HG : Hid (GOpen w s (i + n) u3 w1.heap.size w2 w1 ps r i n [] (.slice none 0 0)) := ⟨hps, HO.out, by omega, Nat.le_refl _, hb2, hrd, HQ.out⟩
          have hbw2 := hbw1.trans (hb2.mono hbw1.size)
          clear hrd hb2
          go_wp2_with fail
          go_roundw
          case rel => exact ⟨i + n, by omega, HI2.out, hbw2, .inr ⟨_, _, ps, r, i, n, [], _, rfl, HG.out⟩⟩
          case measure =>
            have h := HI2.out
            simp [World.iterPos, h]
            omega
      · have hG1 := hG.iterAt (i + n)
        generalize wr.iterAt w.heap.size s (i + n) = w1 at hnx hit1 hbw1 hG1
        generalize wm.iterAt w.heap.size s (i + n) = wm1 at hG1
        have HG := Lib.hid hG1
        have HI := Lib.hid hit1
        have hkm : w.heap.size < m := by have := hG1.base; have := hG1.le; omega
        have hml : m < w1.heap.size := hG1.rd.lt
        clear hG hG1 hit1
        go_wp2_with fail
        refine (isOfNumbers_any r w1).mono ?_
        rintro e w2 ⟨he, rfl⟩
        cases hnb : numb r with
        | true =>
          rw [hnb] at he
          subst he
          have HN := Lib.hid (open_num HG.out.opn (by rw [bytes_len]; exact hlt) HR.out hnb)
          have HX := Lib.hid (rd_u64 (!numb r0) X HG.out.opn.all)
          have hxl : (rdOf (!numb r0) X).args.length ≤ 1000000 := by
            have h1 := HX.out.2.1
            have h2 := HG.out.opn.len
            omega
          go_wp2_with fail
          refine (add_any HG.out.rd hxl HX.out.1 r hnb).mono ?_
          rintro e w2 ⟨rfl, ⟨av', hrd⟩, hb2⟩
          rw [← rdOf_snoc] at hrd
          have HI2 : Hid (w2.heap[w.heap.size]? = some (.stringIter s (i + n))) := by unfold Hid; rw [hb2.block _ hkm]; exact HI.out
          have HG2 : Hid (GOpen w s (i + n) u3 m w2 wm1 ps r0 at0 n0 (X ++ [r]) av') := by
            refine ⟨HG.out.len, HG.out.own, HG.out.base, HG.out.le, HG.out.bel.trans (hb2.mono HG.out.le), ?_, by rw [HN.out.1]; exact HN.out.2⟩
            have e0 : (!(X ++ [r]).isEmpty) = true := by cases X <;> rfl
            rw [e0]
            exact hrd
          have hbw2 := hbw1.trans (hb2.mono (Nat.le_of_lt hkm))
          clear hrd hb2 hnb
          go_wp2_with fail
          go_roundw
          case rel => exact ⟨i + n, by omega, HI2.out, hbw2, .inr ⟨_, _, ps, r0, at0, n0, _, _, rfl, HG2.out⟩⟩
          case measure =>
            have h := HI2.out
            simp [World.iterPos, h]
            omega
        | false =>
          rw [hnb] at he
          subst he
          have HE : Hid (s.size ≤ i ∨ numb (rune ((bytes s).drop i)).1 = false) := .inr (by rw [HR.out]; exact hnb)
          clear hnb
          have HCL := Lib.hid (close_open hs HG.out hi HE.out)
          go_wp2_with fail
          refine (isBlank_any r w1).mono ?_
          rintro e w2 ⟨he, rfl⟩
          cases hbl : gl.blank r with
          | true =>
            rw [hbl] at he
            subst he
            have HPB2 := Lib.hid (HPB.out hbl)
            clear hbl
            go_wp2_with fail
            refine HCL.out.mono ?_
            rintro e w2 ⟨v', rfl, ⟨qs, hqs, hown, hpar⟩, hb2⟩
            have HI2 : Hid (w2.heap[w.heap.size]? = some (.stringIter s (i + n))) := by unfold Hid; rw [hb2.block _ (by omega)]; exact HI.out
            have HO := Lib.hid hown
            have HQ : Hid (parseAt 0 (bytes s) = qs.map (·.2) ++ parseAt (i + n) ((bytes s).drop (i + n))) := by
              unfold Hid
              rw [hpar, HPB2.out]
            have hbw2 := hbw1.trans (hb2.mono (by omega))
            clear hown hpar hb2
            go_wp2_with fail
            go_roundw
            case rel => exact ⟨i + n, by omega, HI2.out, hbw2, .inl ⟨rfl, qs, by omega, HO.out, HQ.out⟩⟩
            case measure =>
              have h := HI2.out
              simp [World.iterPos, h]
              omega
          | false =>
            rw [hbl] at he
            subst he
            have HBL := Lib.hid hbl
            clear hbl
            go_wp2_with fail
            refine HCL.out.mono ?_
            rintro e w2 ⟨v', rfl, ⟨qs, hqs, hown, hpar⟩, hb2⟩
            have HI2 : Hid (w2.heap[w.heap.size]? = some (.stringIter s (i + n))) := by unfold Hid; rw [hb2.block _ (by omega)]; exact HI.out
            have HO := Lib.hid hown
            have HQ := Lib.hid (open_start hpar (by rw [bytes_len]; exact hlt) HR.out HBL.out)
            have hbw2 := hbw1.trans (hb2.mono (by omega))
            clear hown hpar hb2
            go_wp2_with fail
            refine (begun_any r i w2).mono ?_
            rintro e w3 ⟨rfl, hrd, hb3⟩
            have hkl : w.heap.size < w2.heap.size := (Array.getElem?_eq_some_iff.1 HI2.out).1
            have HI3 : Hid (w3.heap[w.heap.size]? = some (.stringIter s (i + n))) := by unfold Hid; rw [hb3.block _ hkl]; exact HI2.out
            have HG3 : Hid (GOpen w s (i + n) v' w2.heap.size w3 w2 qs r i n [] (.slice none 0 0)) := ⟨hqs, HO.out, by omega, Nat.le_refl _, hb3, hrd, HQ.out⟩
            have hbw3 := hbw2.trans (hb3.mono hbw2.size)
            clear hrd hb3
            go_wp2_with fail
            go_roundw
            case rel => exact ⟨i + n, by omega, HI3.out, hbw3, .inr ⟨_, _, qs, r, i, n, [], _, rfl, HG3.out⟩⟩
            case measure =>
              have h := HI3.out
              simp [World.iterPos, h]
              omega
    · obtain rfl : i = s.size := by omega
      have hnx := fun ty => Go.Lib.run_next_end_at (P := Tryd.prog) wr w.heap.size s s.size ty hit hlt
      have fin : ∀ ps : List (Value × Ent), parseAt 0 (bytes s) = ps.map (·.2) ++ parseAt s.size ((bytes s).drop s.size) → ps.map (·.2) = parse (bytes s) := fun ps h => by
        rw [List.drop_eq_nil_of_le (by rw [bytes_len]; omega), parseAt_nil, List.append_nil] at h
        exact h.symm
      have HF := Lib.hid fin
      clear fin
      rcases hcase with ⟨rfl, ps, hps, hown, hpar⟩ | ⟨m, wm, ps, r0, at0, n0, X, av, rfl, hG⟩
      · have HO := Lib.hid hown
        have HP := Lib.hid hpar
        clear hown hpar hit
        go_wp2_with fail
        refine (closed_nil u3 wr).mono ?_
        rintro e w2 ⟨rfl, rfl⟩
        go_wp2_with fail
        go_ret
        exact ⟨hbw, _, ps, rfl, HO.out.mono (Nat.le_succ _), HF.out _ HP.out⟩
      · have HG := Lib.hid hG
        clear hG hit
        go_wp2_with fail
        refine (close_open hs HG.out hi (.inl (Nat.le_refl _))).mono ?_
        rintro e w2 ⟨v', rfl, ⟨qs, hqs, hown, hpar⟩, hb2⟩
        have HO := Lib.hid hown
        have HP := Lib.hid hpar
        have hbw2 := hbw.trans (hb2.mono (by omega))
        clear hown hpar
        go_wp2_with fail
        go_ret
        exact ⟨hbw2, _, qs, rfl, HO.out.mono (Nat.le_succ _), HF.out _ HP.out⟩
end Go.Proofs.YtolampkhohahlaaDoor.g3
