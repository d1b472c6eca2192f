/- Slices of answers (ops), runs of them, lists compared; over this seat's program. -/
import Derived.Test.YtjmbjlijkohkfaaLifR
import Derived.Test.YtjmbjlijkohkfaaStructs
namespace Go.Proofs.Ytjmbjlijkohkfaa.lf
open Go.ChangeShapes Go.WideShapes Go.ChangeAt Go.RowKit frame lift sep own join
set_option linter.unusedVariables false
/-- A slice of ops that can be read. -/
def Ops (w : World) (v : Value) (l : List Ans) : Prop :=
  ∃ a cap, v = .slice a l.length cap ∧ (0 < l.length → l.length ≤ cap ∧ cap ≤ maxLen ∧ ∃ b off, a = some ⟨b, off, none⟩ ∧ b < w.heap.size ∧
    ∀ (i : Nat) (h : i < l.length), w.cell? ⟨b, off + i * 3, none⟩ = some (.bool l[i].push) ∧ w.cell? ⟨b, off + i * 3 + 1, none⟩ = some (.int .u64 l[i].v) ∧ w.cell? ⟨b, off + i * 3 + 2, none⟩ = some (.int .i64 l[i].st))
theorem Ops.below {w w' : World} {v : Value} {l : List Ans} (h : Ops w v l) (hb : Below w.heap.size w w') : Ops w' v l := by
  obtain ⟨a, cap, hv, hf⟩ := h
  refine ⟨a, cap, hv, fun h0 => ?_⟩
  obtain ⟨h1, h2, b, off, ha, hbl, hc⟩ := hf h0
  have e : ∀ j, w'.cell? ⟨b, j, none⟩ = w.cell? ⟨b, j, none⟩ := fun j => hb.cell (p := ⟨b, j, none⟩) hbl
  refine ⟨h1, h2, b, off, ha, Nat.lt_of_lt_of_le hbl hb.size, fun i hi => ?_⟩
  simp only [e]
  exact hc i hi
theorem Ops.at_ {w w' : World} {a : Option Addr} {n cap : Nat} {l : List Ans} (h : Ops w (.slice a n cap) l) (hb : Below w.heap.size w w') (i : Nat) (hi : i < l.length) :
    ∃ b off, a = some ⟨b, off, none⟩ ∧ b < w.heap.size ∧ w'.cell? ⟨b, off + i * 3, none⟩ = some (.bool l[i].push) ∧ w'.cell? ⟨b, off + i * 3 + 1, none⟩ = some (.int .u64 l[i].v) ∧ w'.cell? ⟨b, off + i * 3 + 2, none⟩ = some (.int .i64 l[i].st) := by
  obtain ⟨a', cap', hv, hf⟩ := h
  simp only [Value.slice.injEq] at hv
  obtain ⟨rfl, rfl, rfl⟩ := hv
  obtain ⟨h1, h2, b, off, ha, hbl, hc⟩ := hf (by omega)
  have e : ∀ j, w'.cell? ⟨b, j, none⟩ = w.cell? ⟨b, j, none⟩ := fun j => hb.cell (p := ⟨b, j, none⟩) hbl
  refine ⟨b, off, ha, hbl, ?_⟩
  simp only [e]
  exact hc i hi
/-- The first k of them. -/
theorem Ops.take {w : World} {a : Option Addr} {n cap : Nat} {l : List Ans} (h : Ops w (.slice a n cap) l) (k : Nat) (hk : k ≤ l.length) : Ops w (.slice a k cap) (l.take k) := by
  obtain ⟨a', cap', hv, hf⟩ := h
  simp only [Value.slice.injEq] at hv
  obtain ⟨rfl, rfl, rfl⟩ := hv
  have hl : (l.take k).length = k := by rw [List.length_take]; omega
  refine ⟨a, cap, by rw [hl], fun h0 => ?_⟩
  rw [hl] at h0
  obtain ⟨h1, h2, b, off, ha, hbl, hc⟩ := hf (by omega)
  refine ⟨by omega, h2, b, off, ha, hbl, fun i hi => ?_⟩
  rw [hl] at hi
  rw [List.getElem_take]
  exact hc i (by omega)
/-- Those from k on. -/
theorem Ops.drop {w : World} {b off n cap : Nat} {l : List Ans} (h : Ops w (.slice (some ⟨b, off, none⟩) n cap) l) (k : Nat) (hk : k ≤ l.length) {a : Option Addr} (ha : k < l.length → a = some ⟨b, off + k * 3, none⟩) : Ops w (.slice a (l.length - k) (cap - k)) (l.drop k) := by
  obtain ⟨a', cap', hv, hf⟩ := h
  simp only [Value.slice.injEq] at hv
  obtain ⟨rfl, rfl, rfl⟩ := hv
  refine ⟨a, cap - k, by rw [List.length_drop], fun h0 => ?_⟩
  rw [List.length_drop] at h0
  obtain ⟨h1, h2, b', off', hb, hbl, hc⟩ := hf (by omega)
  simp only [Option.some.injEq, Addr.mk.injEq, and_true] at hb
  obtain ⟨rfl, rfl⟩ := hb
  refine ⟨by rw [List.length_drop]; omega, by omega, b, off + k * 3, ha (by omega), hbl, fun i hi => ?_⟩
  rw [List.length_drop] at hi
  rw [List.getElem_drop]
  have := hc (k + i) (by omega)
  have e : off + (k + i) * 3 = off + k * 3 + i * 3 := by omega
  rw [e] at this
  exact this
def opKinds : List FK := [.bool, .int .u64, .int .i64]
def boolOf : Value → Bool
  | .bool b => b
  | _ => false
theorem int_of {k : IntKind} {v : Value} (h : (FK.int k).ok v) : v = .int k (intOf v) ∧ (Lit.int k (intOf v)).wf = true := by
  obtain ⟨n, rfl, hw⟩ := h
  exact ⟨rfl, hw⟩
theorem bool_of {v : Value} (h : FK.bool.ok v) : v = .bool (boolOf v) := by
  obtain ⟨b, rfl⟩ := h
  rfl
def OpOk (o : Ans) : Prop := (0 ≤ o.v ∧ o.v ≤ 18446744073709551615) ∧ (-9223372036854775808 ≤ o.st ∧ o.st ≤ 9223372036854775807)
def OpsOk (l : List Ans) : Prop := ∀ o ∈ l, OpOk o
theorem open_ops {H : Type} {enc : TypeId × Value → H} {W : World} {v : Value} {d : DataW H} {p : List MemPlace} (hv : ∃ a len cap, v = .slice a len cap) (h : DataW.Trod enc Try.prog W 0 (fun _ => true) true 23 v d p) :
    ∃ l, Ops W v l ∧ OpsOk l := by
  obtain ⟨n, R, hS, hR⟩ := open_structs (fks := opKinds) Try.underlying23 Try.underlying30 (by kernel_rfl) (by kernel_rfl) rfl (by decide) (fun j f fk hj hk => by
    match j, hj, hk with
    | 0, hj, hk => simp at hj; simp [opKinds] at hk; subst hj; subst hk; exact Try.underlying4
    | 1, hj, hk => simp at hj; simp [opKinds] at hk; subst hj; subst hk; exact Try.underlying28
    | 2, hj, hk => simp at hj; simp [opKinds] at hk; subst hj; subst hk; exact Try.underlying25
    | j + 3, hj, hk => simp [opKinds] at hk) hv h
  let l : List Ans := (List.range n).map fun i => ⟨boolOf (R i 0), intOf (R i 1), intOf (R i 2)⟩
  have hl : l.length = n := by simp [l]
  refine ⟨l, ?_, fun a ha => ?_⟩
  · rcases hS with ⟨rfl, a, cap, rfl⟩ | ⟨h0, b, off, cap, rfl, h1, h2, h3, h4⟩
    · exact ⟨a, cap, rfl, fun h => by simp [l] at h⟩
    · refine ⟨_, cap, by rw [hl], fun _ => ⟨by omega, h2, b, off, rfl, h3, fun i hi => ?_⟩⟩
      have hin : i < n := by omega
      have e : l[i] = ⟨boolOf (R i 0), intOf (R i 1), intOf (R i 2)⟩ := by simp [l]
      rw [e]
      have c (j : Nat) (hj : j < 3) : W.cell? ⟨b, off + i * 3 + j, none⟩ = some (R i j) := by
        rw [Nat.add_assoc]
        exact h4 i hin j hj
      refine ⟨?_, ?_, ?_⟩
      · rw [← bool_of (hR i hin 0 _ rfl)]; exact c 0 (by decide)
      · rw [← (int_of (hR i hin 1 _ rfl)).1]; exact c 1 (by decide)
      · rw [← (int_of (hR i hin 2 _ rfl)).1]; exact c 2 (by decide)
  · simp only [l, List.mem_map, List.mem_range] at ha
    obtain ⟨i, hin, rfl⟩ := ha
    exact ⟨bd_u64 (int_of (hR i hin 1 _ rfl)).2, bd_i64 (int_of (hR i hin 2 _ rfl)).2⟩
/-- What a Run tells. -/
def RunV (w : World) (s : List Int) (most : Int) (l : List Ans) (e : Ending) (w' : World) : Prop := New w (runL s most l).1 e w' (fun t => .tuple #[t, .int .i64 (runL s most l).2])
set_option maxHeartbeats 4000000 in
theorem rrun_any {w : World} {v vo : Value} {s : List Int} {l : List Ans} (h : Ints w .u64 v s) (ho : Ops w vo l) (hl : s.length + l.length ≤ 1000000) (most : Int) :
    Calls Try.prog 20 #[v, .int .i64 most, vo] w (RunV w s most l) := by
  unfold RunV
  obtain ⟨a, cap, rfl, _⟩ := form h
  have HS := Lib.hid ho
  obtain ⟨a2, cap2, rfl, _⟩ := ho
  have HX := Lib.hid (h.below ((Below.refl _ _).alloc (Nat.le_refl _) (Obj.cells #[] 28 (0, 0))))
  have HO := Lib.hid (own_empty (W := w) 28 .u64 (Nat.le_refl _))
  clear h
  go_enter Try.func20, Try.ntmps20
  go_wp2_with (at_builtin; refine wpList_cat _ rfl _ _ 22 rfl w.heap.size 28 .u64 (.int .u64 0) 8 Try.underlying22 info64 rfl _ [] rfl HO.out _ s rfl HX.out ?c1 (by decide) ?c2 ?_)
  case c1 => simp; omega
  case c2 => simp
  intro v' w1 hown hgrow
  have HB1 := Lib.hid (below_grown ((Below.refl w.heap.size w).alloc (Nat.le_refl _) _) hgrow HO.out (Nat.le_refl _))
  have HO1 : Hid (Own w1 w.heap.size 28 .u64 v' s) := hown
  clear hown hgrow
  go_wp2_with fail
  go_loopw [8, 9] (fun nv i wr => ∃ (k : Nat) (now : List Int) (vv : Value), nv = vv ∧ i = .int .i64 k ∧ now.length ≤ s.length + k ∧ Hid (At s most l k now) ∧ Hid (Ints wr .u64 vv now) ∧ Hid (Below w.heap.size w wr)) (fun _ i _ => l.length - (intOf i).toNat)
  case atStart => exact ⟨0, s, _, rfl, rfl, Nat.le_refl _, At.zero _ _ _, HO1.out.ints, HB1.out⟩
  case round =>
    obtain ⟨k, now, vv, hvv, rfl, hnl, HA, HI, HB⟩ := hrel
    have hv2 := hvv.symm
    clear hvv
    subst hv2
    obtain ⟨av, cv, rfl, _⟩ := form HI.out
    have hkl := HA.out.le
    by_cases hlt : k < l.length
    · obtain ⟨g, off, rfl, hgl, x0, x1, x2⟩ := HS.out.at_ HB.out k hlt
      obtain ⟨o, hoo⟩ : ∃ o, l[k] = o := ⟨_, rfl⟩
      have HN : Hid (∀ t, doL now most o = some t → At s most l (k + 1) t) := fun t ht => HA.out.next hlt (by rw [hoo]; exact ht)
      have HST : Hid (doL now most o = none → runL s most l = (now, k)) := fun ht => HA.out.stop hlt (by rw [hoo]; exact ht)
      rw [hoo] at x0 x1 x2
      have hi1 : (0 : Int) ≤ (k : Int) := by omega
      have hi2 : (k : Int) < (l.length : Int) := by omega
      clear hoo
      go_wp2_with fail
      refine (rdo_any HI.out (by omega) most o).mono ?_
      rintro e w2 ⟨t, rfl, ht, hb⟩
      have HB2 := Lib.hid (below_trans HB.out hb)
      have HI2 := Lib.hid (HI.out.below hb)
      have HT := Lib.hid ht
      clear ht hb x0 x1 x2
      cases hd : doL now most o with
      | none =>
        have HR := Lib.hid (HST.out hd)
        rw [hd] at HT
        clear hd
        go_wp2_with fail
        go_ret2
        rw [HR.out]
        exact ⟨_, rfl, HI2.out, HB2.out⟩
      | some t2 =>
        have HN2 := Lib.hid (HN.out t2 hd)
        have hl2 := do_len hd
        rw [hd] at HT
        clear hd
        go_wp2_with fail
        go_roundw
        case rel => exact ⟨k + 1, t2, t, rfl, by go_num, by omega, HN2.out, HT.out, HB2.out⟩
        case measure => simp [intOf]; omega
    · obtain rfl : k = l.length := by omega
      have HR := Lib.hid HA.out.all
      go_wp2_with fail
      go_ret2
      rw [HR.out]
      exact ⟨_, rfl, HI.out, HB.out⟩
end Go.Proofs.Ytjmbjlijkohkfaa.lf
