/- Package hatstandref5: what each call answers, over this seat's program. -/
import Derived.Test.YtjmbjlijkohkfaaLif
import Derived.Test.YtjmbjlijkohkfaaJoin
import Derived.Handy
import Derived.Deep.RegionHeld3
import Derived.Deep.RegionLaw
import Derived.Deep.QuietTactic
import Derived.BigQuiet
namespace Go.Proofs.Ytjmbjlijkohkfaa.lf
open Go.ChangeShapes Go.WideShapes Go.ChangeAt Go.RowKit frame lift sep own join
set_option linter.unusedVariables false
theorem info64 : (Try.prog.info? 28).map (fun i => (i.zero, i.size, i.bytes)) = some (some (.int .u64 0), 1, 8) := by kernel_rfl
/-- A stack that a call has made anew, or took over: it can be read. -/
def New (w : World) (l : List Int) (e : Ending) (w' : World) (f : Value → Value) : Prop := ∃ t, e = .returned (f t) ∧ Ints w' .u64 t l ∧ Below w.heap.size w w'
theorem form {k : IntKind} {w : World} {v : Value} {l : List Int} (h : Ints w k v l) : ∃ a cap, v = .slice a l.length cap ∧ (0 < l.length → l.length ≤ cap ∧ cap ≤ maxLen ∧ ∃ b off, a = some ⟨b, off, none⟩ ∧ b < w.heap.size ∧ ∀ i, i < l.length → w.cell? ⟨b, off + i, none⟩ = some (.int k (nth l i))) := by
  rcases h with ⟨rfl, a, cap, rfl⟩ | ⟨h0, b, off, cap, rfl, h1, h2, hb, hc⟩
  · exact ⟨a, cap, rfl, fun h => by simp at h⟩
  · exact ⟨_, cap, rfl, fun _ => ⟨h1, h2, b, off, rfl, hb, hc⟩⟩
set_option maxHeartbeats 1000000 in
theorem rpush_any {w : World} {v : Value} {l : List Int} (h : Ints w .u64 v l) (hl : l.length ≤ 1000000) (most x : Int) :
    Calls Try.prog 12 #[v, .int .i64 most, .int .u64 x] w fun e w' => New w (pushL l most x) e w' (fun t => .tuple #[t, .int .i64 (pushT l most)]) := by
  obtain ⟨a, cap, rfl, _⟩ := form h
  have HX := Lib.hid (h.below ((Below.refl _ _).alloc (Nat.le_refl _) (Obj.cells #[] 28 (0, 0))))
  have HO := Lib.hid (own_empty (W := w) 28 .u64 (Nat.le_refl _))
  clear h
  go_enter Try.func12, Try.ntmps12
  go_wp2_with (at_builtin; refine wpList_cat _ rfl _ _ 22 rfl w.heap.size 28 .u64 (.int .u64 0) 8 Try.underlying22 info64 rfl _ [] rfl HO.out _ l rfl HX.out ?c1 (by decide) ?c2 ?_)
  case c1 => simp; omega
  case c2 => simp
  intro v' w1 hown hgrow
  have hb1 := below_grown ((Below.refl w.heap.size w).alloc (Nat.le_refl _) _) hgrow HO.out (Nat.le_refl _)
  obtain ⟨a1, c1, rfl, _, _⟩ := Own.form hown
  have HO1 : Hid (Own w1 w.heap.size 28 .u64 (.slice a1 l.length c1) l) := hown
  have HB1 := Lib.hid hb1
  clear hown hgrow hb1
  by_cases hlt : (l.length : Int) < most
  · have HT : Hid (pushL l most x = l ++ [x] ∧ pushT l most = 1) := by simp [Hid, pushL, pushT, hlt]
    go_wp2_with (at_builtin; refine wpList_push _ rfl _ _ 22 rfl w.heap.size 28 .u64 (.int .u64 0) 8 Try.underlying22 info64 rfl _ l x rfl (HO1.out.alloc _) ⟨w1.heap.size, 0, none⟩ 1 rfl ?d1 ?d2 (by decide) ?d4 ?_)
    case d1 => exact cell_new _ _ _
    case d2 => omega
    case d4 => have := HB1.out.size; simp; omega
    intro v2 w2 hown2 hgrow2
    have hb2 := below_grown (HB1.out.alloc HB1.out.size _) hgrow2 (HO1.out.alloc _) (Nat.le_refl _)
    have HO2 := Lib.hid hown2
    have HB2 := Lib.hid hb2
    clear hown2 hgrow2 hb2
    go_wp2_with fail
    go_ret2
    rw [HT.out.1, HT.out.2]
    exact ⟨_, rfl, HO2.out.ints, HB2.out⟩
  · have HT : Hid (pushL l most x = l ∧ pushT l most = 2) := by simp [Hid, pushL, pushT, hlt]
    go_wp2_with fail
    go_ret2
    rw [HT.out.1, HT.out.2]
    exact ⟨_, rfl, HO1.out.ints, HB1.out⟩
theorem last_nth {l : List Int} {x : Int} : nth (l ++ [x]) l.length = x := by simp [nth, List.getD]
theorem snoc_of {l : List Int} (h : 0 < l.length) : ∃ r x, l = r ++ [x] := ⟨l.dropLast, l.getLast (List.ne_nil_of_length_pos h), (List.dropLast_concat_getLast _).symm⟩
theorem ints_take {w : World} {k : IntKind} {a : Option Addr} {n cap : Nat} {l m : List Int} (h : Ints w k (.slice a n cap) (l ++ m)) (hl : (l ++ m).length ≤ cap) : Ints w k (.slice a l.length cap) l := by
  by_cases h0 : 0 < l.length
  · rcases h with ⟨e, _⟩ | ⟨_, b, off, c, hv, h1, h2, hb, hc⟩
    · simp at e
      rw [e.1] at h0
      simp at h0
    · simp only [Value.slice.injEq] at hv
      obtain ⟨rfl, _, rfl⟩ := hv
      refine .inr ⟨h0, b, off, _, rfl, by simp at hl; omega, h2, hb, fun i hi => ?_⟩
      rw [hc i (by simp; omega)]
      simp [nth, List.getD, List.getElem?_append_left hi, hi]
  · have : l = [] := List.eq_nil_of_length_eq_zero (by omega)
    exact .inl ⟨this, a, cap, by rw [this]; rfl⟩
set_option maxHeartbeats 4000000 in
theorem rpop_any {w : World} {v : Value} {l : List Int} (h : Ints w .u64 v l) (hl : l.length ≤ 1000000) :
    Calls Try.prog 18 #[v] w fun e w' => New w (popL l) e w' (fun t => .tuple #[t, .int .u64 (popV l), .int .i64 (popT l)]) := by
  by_cases h0 : 0 < l.length
  · obtain ⟨r, x, rfl⟩ := snoc_of h0
    have HT : Hid (popL (r ++ [x]) = r ∧ popV (r ++ [x]) = x ∧ popT (r ++ [x]) = 1) := ⟨by simp [popL], by simp [popV], by cases r <;> rfl⟩
    obtain ⟨a, cap, rfl, hf⟩ := form h
    obtain ⟨hc1, hc2, b, off, rfl, hb, hc⟩ := hf h0
    have e0 := hc r.length (by simp)
    rw [last_nth] at e0
    have hlen : (r ++ [x]).length = r.length + 1 := by simp
    rw [hlen] at hl hc1 h ⊢
    have HX := Lib.hid (ints_take h (by rw [hlen]; exact hc1))
    unfold maxLen at hc2
    have hrl : r.length ≤ cap := by omega
    have hrl2 : (r.length : Int) ≤ (cap : Int) := by omega
    have hw1 : IntKind.i64.wrap (r.length : Int) = (r.length : Int) := IntWalk.i64_in _ (by omega)
    have hw2 : ((r.length + 1 : Nat) : Int) = (r.length : Int) + 1 := by push_cast; rfl
    have hi0 : (0 : Int) ≤ (r.length : Int) := by omega
    have hi9 : (r.length : Int) < (r.length : Int) + 1 := by omega
    have hi8 : r.length < r.length + 1 := by omega
    have HE : Hid (w.cell? ⟨b, off + r.length, none⟩ = some (.int .u64 x)) := e0
    have HBL := Lib.hid hb
    have HO := Lib.hid (own_empty (W := w.drew) (B := w.heap.size) 28 .u64 (Nat.le_refl _))
    have HXd := Lib.hid (HX.out.below (((Below.refl _ _).drew).alloc (Nat.le_refl _) (Obj.cells #[] 28 (0, 0))))
    have hq1 : ([] : List Int).length + r.length ≤ 1099511627776 := by simp; omega
    have hq2 : w.heap.size ≤ (w.drew.alloc (Obj.cells #[] 28 (0, 0))).heap.size := ((Below.refl w.heap.size w).drew.alloc (Nat.le_refl _) _).size
    have HQ1 := Lib.hid hq1; have HQ2 := Lib.hid hq2
    have HB0 : Hid (Below w.heap.size w (w.drew.alloc (Obj.cells #[] 28 (0, 0)))) := (Below.refl w.heap.size w).drew.alloc (Nat.le_refl _) _
    clear h hf hc hq1 hq2
    go_enter Try.func18, Try.ntmps18
    go_wp2_with fail
    go_region_held3 (fun w' => w'.cell? ⟨b, off + r.length, none⟩ = some (.int .u64 x)) (go_keep) (((refine step_cat _ rfl _ _ 22 rfl w.heap.size 28 .u64 (.int .u64 0) 8 Try.underlying22 info64 rfl _ [] rfl HO.out _ r rfl HXd.out HQ1.out (by decide) HQ2.out ?_); intro v' w1 hown hgrow; (have hb1 := below_grown HB0.out hgrow HO.out (Nat.le_refl _)); (have e1 := (hb1.cell (p := ⟨b, off + r.length, none⟩) HBL.out).trans HE.out); (have HO1 := Lib.hid hown); (have HB1 := Lib.hid hb1); clear hown hgrow hb1))
    go_wp2_with fail
    go_returns
    rw [HT.out.1, HT.out.2.1, HT.out.2.2]
    exact ⟨_, rfl, HO1.out.ints, HB1.out⟩
  · have hn : l = [] := List.eq_nil_of_length_eq_zero (by omega)
    subst hn
    obtain ⟨a, cap, rfl, _⟩ := form h
    clear h
    go_enter Try.func18, Try.ntmps18
    go_wp2_with fail
    go_returns
    exact ⟨_, rfl, .inl ⟨rfl, none, 0, rfl⟩, Below.refl _ _⟩
def encO (o : Ans) : List Value := [.bool o.push, .int .u64 o.v, .int .i64 o.st]
theorem encO_agg (o : Ans) : Value.agg (encO o).toArray = .agg #[.bool o.push, .int .u64 o.v, .int .i64 o.st] := rfl
/-- What a Do tells. -/
def DoV (w : World) (l : List Int) (most : Int) (o : Ans) (e : Ending) (w' : World) : Prop := New w ((doL l most o).getD []) e w' (fun t => .tuple #[t, .bool (doL l most o).isSome])
theorem New.below {w w0 w' : World} {l : List Int} {e : Ending} {f : Value → Value} (h : New w l e w' f) (hb : Below w0.heap.size w0 w) : New w0 l e w' f := by
  obtain ⟨t, h1, h2, h3⟩ := h
  exact ⟨t, h1, h2, below_trans hb h3⟩
set_option maxHeartbeats 4000000 in
theorem rdo_any {w : World} {v : Value} {l : List Int} (h : Ints w .u64 v l) (hl : l.length ≤ 1000000) (most : Int) (o : Ans) :
    Calls Try.prog 14 #[v, .int .i64 most, .agg #[.bool o.push, .int .u64 o.v, .int .i64 o.st]] w (DoV w l most o) := by
  obtain ⟨p, x, st⟩ := o
  unfold DoV
  dsimp only
  obtain ⟨a, cap, rfl, _⟩ := form h
  have hb0 : Below w.heap.size w (w.alloc (.cells #[.bool p, .int .u64 x, .int .i64 st] 34 (0, 0))) := (Below.refl _ _).alloc (Nat.le_refl _) _
  have HX := Lib.hid (h.below hb0)
  have HB := Lib.hid hb0
  by_cases h6 : st = 6
  · subst h6
    have HD : Hid (doL l most ⟨p, x, 6⟩ = some l) := by simp [Hid, doL]
    have HB2 := Lib.hid (hb0.alloc hb0.size (Obj.cells #[] 28 (0, 0)))
    have HX2 := Lib.hid (h.below HB2.out)
    have ho := own_empty (W := w.alloc (.cells #[.bool p, .int .u64 x, .int .i64 6] 34 (0, 0))) (B := w.heap.size) 28 .u64 hb0.size
    have hsz1 : (w.alloc (.cells #[.bool p, .int .u64 x, .int .i64 6] 34 (0, 0))).heap.size = w.heap.size + 1 := by simp
    rw [hsz1] at ho
    clear hsz1
    have HO := Lib.hid ho
    clear ho
    clear h hb0
    go_enter Try.func14, Try.ntmps14
    go_wp2_with (at_builtin; refine wpList_cat _ rfl _ _ 22 rfl w.heap.size 28 .u64 (.int .u64 0) 8 Try.underlying22 info64 rfl _ [] rfl HO.out _ l rfl HX2.out ?c1 (by decide) ?c2 ?_)
    case c1 => simp; omega
    case c2 => exact HB2.out.size
    intro v' w1 hown hgrow
    have HB1 := Lib.hid (below_grown HB2.out hgrow HO.out (Nat.le_refl _))
    have HO1 : Hid (Own w1 w.heap.size 28 .u64 v' l) := hown
    clear hown hgrow
    go_wp2_with fail
    go_ret2
    rw [HD.out]
    exact ⟨_, rfl, HO1.out.ints, HB1.out⟩
  · have h6' : (st == 6) = false := by simpa using h6
    have hsz : w.heap.size < (w.alloc (.cells #[.bool p, .int .u64 x, .int .i64 st] 34 (0, 0))).heap.size := by simp
    have hc : ∀ j, (w.alloc (.cells #[.bool p, .int .u64 x, .int .i64 st] 34 (0, 0))).cell? ⟨w.heap.size, j, none⟩ = (#[Value.bool p, .int .u64 x, .int .i64 st])[j]? := fun j => cell_of_row _ _ j _ _ _ (heap_alloc_new w _)
    have HC := Lib.hid hc
    have HSZ := Lib.hid hsz
    clear h hb0 hc hsz
    cases p with
    | true =>
      go_enter Try.func14, Try.ntmps14
      go_wp2_with fail
      refine (rpush_any HX.out hl most x).mono ?_
      rintro e w1 ⟨t, rfl, ht, hb⟩
      have e2 := (hb.cell (p := ⟨w.heap.size, 2, none⟩) HSZ.out).trans (HC.out 2)
      simp at e2
      have HT := Lib.hid ht
      have HB1 := Lib.hid (below_trans HB.out hb)
      clear ht hb
      by_cases hs : pushT l most = st
      · have HD : Hid (doL l most ⟨true, x, st⟩ = some (pushL l most x)) := by simp [Hid, doL, h6, hs]
        have hs' : (pushT l most != st) = false := by simpa using hs
        go_wp2_with fail
        go_ret2
        rw [HD.out]
        exact ⟨_, rfl, HT.out, HB1.out⟩
      · have HD : Hid (doL l most ⟨true, x, st⟩ = none) := by simp [Hid, doL, h6, hs]
        have hs' : (pushT l most != st) = true := by simpa using hs
        clear hs
        go_wp2_with fail
        go_ret2
        rw [HD.out]
        exact ⟨_, rfl, .inl ⟨rfl, none, 0, rfl⟩, HB1.out⟩
    | false =>
      go_enter Try.func14, Try.ntmps14
      go_wp2_with fail
      refine (rpop_any HX.out hl).mono ?_
      rintro e w1 ⟨t, rfl, ht, hb⟩
      have e2 := (hb.cell (p := ⟨w.heap.size, 2, none⟩) HSZ.out).trans (HC.out 2)
      have e1 := (hb.cell (p := ⟨w.heap.size, 1, none⟩) HSZ.out).trans (HC.out 1)
      simp at e1 e2
      have HT := Lib.hid ht
      have HB1 := Lib.hid (below_trans HB.out hb)
      clear ht hb
      by_cases hs : popT l = st
      · have hs' : (popT l != st) = false := by simpa using hs
        by_cases hx : popV l = x
        · have HD : Hid (doL l most ⟨false, x, st⟩ = some (popL l)) := by simp [Hid, doL, h6, hs, hx]
          have hx' : (popV l != x) = false := by simpa using hx
          clear hs hx
          go_wp2_with fail
          go_ret2
          rw [HD.out]
          exact ⟨_, rfl, HT.out, HB1.out⟩
        · have HD : Hid (doL l most ⟨false, x, st⟩ = none) := by simp [Hid, doL, h6, hs, hx]
          have hx' : (popV l != x) = true := by simpa using hx
          clear hs hx
          go_wp2_with fail
          go_ret2
          rw [HD.out]
          exact ⟨_, rfl, .inl ⟨rfl, none, 0, rfl⟩, HB1.out⟩
      · have HD : Hid (doL l most ⟨false, x, st⟩ = none) := by simp [Hid, doL, h6, hs]
        have hs' : (popT l != st) = true := by simpa using hs
        clear hs
        go_wp2_with fail
        go_ret2
        rw [HD.out]
        exact ⟨_, rfl, .inl ⟨rfl, none, 0, rfl⟩, HB1.out⟩
end Go.Proofs.Ytjmbjlijkohkfaa.lf
