/- Package lifo: what each call answers, over this seat's program. -/
import Derived.Test.YtjmbjlijkohkfaaLifC
import Derived.Test.YtjmbjlijkohkfaaKept
import Derived.Lib.SliceRun
namespace Go.Proofs.Ytjmbjlijkohkfaa.lf
open Go.ChangeShapes Go.WideShapes Go.ChangeAt Go.RowKit frame lift sep own join
set_option linter.unusedVariables false
set_option maxHeartbeats 2000000 in
theorem clone_any {w : World} {v : Value} {l : List Int} (h : Ints w .u64 v l) (hl : l.length ≤ 1000000) :
    Calls Try.prog 23 #[v] w fun e w' => ∃ t, e = .returned t ∧ Own w' w.heap.size 28 .u64 t l ∧ Below w.heap.size w w' := by
  have q0 : ∀ (w : World) (a : Option Addr) (n c n' c' : Nat), (binOp .eql 22 (.slice a n c) (.slice none n' c')).run Try.prog w = .ok (.bool a.isNone) w := fun w a n c n' c' => Lib.run_eql_slice_nil w _ _ a n c n' c' Try.underlying22
  obtain ⟨a, cap, rfl, hf⟩ := form h
  have HX := Lib.hid (h.below ((Below.refl _ _).alloc (Nat.le_refl _) (Obj.cells #[] 28 (0, 0))))
  have HO := Lib.hid (own_empty (W := w) 28 .u64 (Nat.le_refl _))
  cases a with
  | none =>
    have hn : l = [] := by
      apply List.eq_nil_of_length_eq_zero
      by_cases h0 : 0 < l.length
      · obtain ⟨_, _, b, off, e, _⟩ := hf h0
        cases e
      · omega
    subst hn
    clear h hf HX HO
    go_enter Try.func23, Try.ntmps23
    go_wp2_with fail
    go_ret
    exact ⟨_, rfl, ⟨rfl, .inl ⟨rfl, rfl⟩⟩, Below.refl _ _⟩
  | some ad =>
    clear h hf
    go_enter Try.func23, Try.ntmps23
    go_wp2_with (at_builtin; refine wpList_cat _ rfl _ _ 22 rfl w.heap.size 28 .u64 (.int .u64 0) 8 Try.underlying22 info64 rfl _ [] rfl HO.out _ l rfl HX.out ?c1 (by decide) ?c2 ?_)
    case c1 => simp; omega
    case c2 => simp
    intro v' w1 hown hgrow
    have HB1 := Lib.hid (below_grown ((Below.refl w.heap.size w).alloc (Nat.le_refl _) _) hgrow HO.out (Nat.le_refl _))
    have HO1 : Hid (Own w1 w.heap.size 28 .u64 v' l) := hown
    clear hown hgrow
    go_wp2_with fail
    go_ret
    exact ⟨_, rfl, HO1.out, HB1.out⟩
/-- What is told of a stack of the call's own: the next one, its own too; the one ahead is kept. -/
def Kept (w : World) (B : Nat) (v : Value) (l m : List Int) (e : Ending) (w' : World) (f : Value → Value) : Prop := ∃ t, e = .returned (f t) ∧ Own w' B 28 .u64 t m ∧ Own w' B 28 .u64 v l ∧ w.grownBy w' v.ownBlock
set_option maxHeartbeats 2000000 in
theorem put_any {w : World} {B : Nat} {v : Value} {l : List Int} (h : Own w B 28 .u64 v l) (hB : B ≤ w.heap.size) (hl : l.length ≤ 1000000) (most x : Int) :
    Calls Try.prog 22 #[v, .int .i64 most, .int .u64 x] w fun e w' => Kept w B v l (pushL l most x) e w' (fun t => .tuple #[t, .int .i64 (pushT l most)]) := by
  obtain ⟨a, cap, rfl, _, _⟩ := h.form
  have HO := Lib.hid h
  have HO1 := Lib.hid (h.alloc (.cells #[.int .u64 x] 28))
  clear h
  by_cases hlt : (l.length : Int) < most
  · have HT : Hid (pushL l most x = l ++ [x] ∧ pushT l most = 1) := by simp [Hid, pushL, pushT, hlt]
    go_enter Try.func22, Try.ntmps22
    go_wp2_with (at_builtin; refine wpList_push_kept _ rfl _ _ 22 rfl B 28 .u64 (.int .u64 0) 8 Try.underlying22 info64 rfl _ l x rfl HO1.out ⟨w.heap.size, 0, none⟩ 1 rfl ?d1 ?d2 (by decide) ?d4 ?_)
    case d1 => exact cell_new _ _ _
    case d2 => omega
    case d4 => simp; omega
    intro v2 w2 hown2 hold hb
    have HO2 := Lib.hid hown2
    have HO3 := Lib.hid hold
    have HB2 := Lib.hid (grown_trans (World.grownBy_alloc w _ _) hb)
    clear hown2 hold hb
    go_wp2_with fail
    go_ret2
    rw [HT.out.1, HT.out.2]
    exact ⟨_, rfl, HO2.out, HO3.out, HB2.out⟩
  · have HT : Hid (pushL l most x = l ∧ pushT l most = 2) := by simp [Hid, pushL, pushT, hlt]
    go_enter Try.func22, Try.ntmps22
    go_wp2_with fail
    go_ret2
    rw [HT.out.1, HT.out.2]
    exact ⟨_, rfl, HO.out, HO.out, grown_refl _ _⟩
set_option maxHeartbeats 4000000 in
theorem take_any {w : World} {B : Nat} {v : Value} {l : List Int} (h : Own w B 28 .u64 v l) (hB : B ≤ w.heap.size) (hl : l.length ≤ 1000000) :
    Calls Try.prog 25 #[v] w fun e w' => Kept w B v l (popL l) e w' (fun t => .tuple #[t, .int .u64 (popV l), .int .i64 (popT l)]) := by
  by_cases h0 : 0 < l.length
  · obtain ⟨r, x, rfl⟩ := snoc_of h0
    have HT : Hid (popL (r ++ [x]) = r ∧ popV (r ++ [x]) = x ∧ popT (r ++ [x]) = 1) := ⟨by simp [popL], by simp [popV], by cases r <;> rfl⟩
    obtain ⟨g, cap, rfl, hBg, hgl, hcap, hc⟩ := h.at_ h0
    have e0 := hc r.length (by simp)
    rw [last_nth] at e0
    have hlen : (r ++ [x]).length = r.length + 1 := by simp
    obtain ⟨a2, c2, hv, _, hc2⟩ := h.form
    simp only [Value.slice.injEq] at hv
    rw [← hv.2.2] at hc2
    clear hv
    have HF := Lib.hid h.front
    have HO := Lib.hid h
    rw [hlen] at hl hcap HO ⊢
    unfold maxLen at hc2
    have hrl : r.length ≤ cap := by omega
    have hrl2 : (r.length : Int) ≤ (cap : Int) := by omega
    have hw1 : IntKind.i64.wrap (r.length : Int) = (r.length : Int) := IntWalk.i64_in _ (by omega)
    have hw2 : ((r.length + 1 : Nat) : Int) = (r.length : Int) + 1 := by push_cast; rfl
    have hi0 : (0 : Int) ≤ (r.length : Int) := by omega
    have hi9 : (r.length : Int) < (r.length : Int) + 1 := by omega
    have hi8 : r.length < r.length + 1 := by omega
    clear h hc
    go_enter Try.func25, Try.ntmps25
    go_wp2_with fail
    go_quiet (fail)
    go_wp2_with fail
    go_returns
    rw [HT.out.1, HT.out.2.1, HT.out.2.2]
    exact ⟨_, rfl, HF.out.below (below_drewN (Below.refl _ _) _), HO.out.below (below_drewN (Below.refl _ _) _), grown_drewN _ _ _⟩
  · have hn : l = [] := List.eq_nil_of_length_eq_zero (by omega)
    subst hn
    obtain ⟨a, cap, rfl, _, _⟩ := h.form
    have HO := Lib.hid h
    clear h
    go_enter Try.func25, Try.ntmps25
    go_wp2_with fail
    go_returns
    exact ⟨_, rfl, HO.out, HO.out, grown_refl _ _⟩
/-- What a stack may answer: the next stack, or that it may not; the one ahead is kept. -/
def AfterV (w : World) (B : Nat) (v : Value) (l : List Int) (most : Int) (o : Ans) (e : Ending) (w' : World) : Prop :=
  ∃ t, e = .returned (.tuple #[t, .bool (doL l most o).isSome]) ∧ (∃ m, Own w' B 28 .u64 t m ∧ (doL l most o).getD m = m) ∧ Own w' B 28 .u64 v l ∧ w.grownBy w' v.ownBlock
def askV (l : List Int) (o : Ans) : Int := if o.push then o.v else popV l
def askL (l : List Int) (most : Int) (o : Ans) : List Int := if o.push then pushL l most o.v else popL l
def askT (l : List Int) (most : Int) (o : Ans) : Int := if o.push then pushT l most else popT l
theorem do_of_ask (l : List Int) (most : Int) (o : Ans) (h6 : o.st ≠ 6) : doL l most o = if askV l o = o.v ∧ askT l most o = o.st then some (askL l most o) else none := by
  unfold doL askV askT askL
  rw [if_neg h6]
  cases o.push <;> simp [and_comm]
theorem own_ne {w : World} {B : Nat} {e : TypeId} {k : IntKind} {v : Value} {l : List Int} (h : Own w B e k v l) {b : Nat} (hb : w.heap.size ≤ b) : v.ownBlock ≠ some b := by
  intro hv
  have := (World.ownsRow.lt h b hv).2
  omega
theorem own_far {w : World} {B : Nat} {e : TypeId} {k : IntKind} {v : Value} {l : List Int} (h : Own w B e k v l) {b : Nat} (hb : b < B) : v.ownBlock ≠ some b := by
  intro hv
  have := (World.ownsRow.lt h b hv).1
  omega
set_option maxHeartbeats 4000000 in
theorem asked_any {w : World} {B : Nat} {v : Value} {l : List Int} (h : Own w B 28 .u64 v l) (hB : B ≤ w.heap.size) (hl : l.length ≤ 1000000) (most : Int) (o : Ans) :
    Calls Try.prog 28 #[v, .int .i64 most, .agg #[.bool o.push, .int .u64 o.v, .int .i64 o.st]] w fun e w' => Kept w B v l (askL l most o) e w' (fun t => .tuple #[t, .int .u64 (askV l o), .int .i64 (askT l most o)]) := by
  obtain ⟨p, x, st⟩ := o
  dsimp only
  obtain ⟨a, cap, rfl, _, _⟩ := h.form
  have hg0 : w.grownBy (w.alloc (.cells #[.bool p, .int .u64 x, .int .i64 st] 30 (0, 0))) (Value.slice a l.length cap).ownBlock := World.grownBy_alloc w _ _
  have HO := Lib.hid (h.alloc (.cells #[.bool p, .int .u64 x, .int .i64 st] 30 (0, 0)))
  have hsz : B ≤ (w.alloc (.cells #[.bool p, .int .u64 x, .int .i64 st] 30 (0, 0))).heap.size := by simp; omega
  have hc : ∀ j, (w.alloc (.cells #[.bool p, .int .u64 x, .int .i64 st] 30 (0, 0))).cell? ⟨w.heap.size, j, none⟩ = (#[Value.bool p, .int .u64 x, .int .i64 st])[j]? := fun j => cell_of_row _ _ j _ _ _ (heap_alloc_new w _)
  have hne := own_ne h (Nat.le_refl _)
  have hlt : w.heap.size < (w.alloc (.cells #[.bool p, .int .u64 x, .int .i64 st] 30 (0, 0))).heap.size := by simp
  have HC := Lib.hid hc
  have HSZ := Lib.hid hsz
  have HG := Lib.hid hg0
  have HNE := Lib.hid hne
  have HLT := Lib.hid hlt
  clear h hg0 hsz hc hne hlt
  cases p with
  | true =>
    have HA : Hid (askL l most ⟨true, x, st⟩ = pushL l most x ∧ askV l ⟨true, x, st⟩ = x ∧ askT l most ⟨true, x, st⟩ = pushT l most) := ⟨rfl, rfl, rfl⟩
    go_enter Try.func28, Try.ntmps28
    go_wp2_with fail
    refine (put_any HO.out HSZ.out hl most x).mono ?_
    rintro e w1 ⟨t, rfl, ht, hk, hb⟩
    have e1 : w1.cell? ⟨w.heap.size, 1, none⟩ = some (.int .u64 x) := (grown_cell (B := B) (e := 28) (k := .u64) (l := l) hb HLT.out HNE.out 1).trans (HC.out 1)
    have e2 : w1.drew.cell? ⟨w.heap.size, 1, none⟩ = some (.int .u64 x) := e1
    obtain ⟨a1, c1, rfl, _, _⟩ := ht.form
    have HT := Lib.hid ht; have HK := Lib.hid hk; have HB1 := Lib.hid (grown_trans HG.out hb)
    clear ht hk hb
    go_wp2_with fail
    go_quiet (fail)
    go_wp2_with fail
    go_returns
    rw [HA.out.1, HA.out.2.1, HA.out.2.2]
    exact ⟨_, rfl, HT.out.below (below_drewN (Below.refl _ _) _), HK.out.below (below_drewN (Below.refl _ _) _), grown_trans HB1.out (grown_drewN _ _ _)⟩
  | false =>
    have HA : Hid (askL l most ⟨false, x, st⟩ = popL l ∧ askV l ⟨false, x, st⟩ = popV l ∧ askT l most ⟨false, x, st⟩ = popT l) := ⟨rfl, rfl, rfl⟩
    go_enter Try.func28, Try.ntmps28
    go_wp2_with fail
    refine (take_any HO.out HSZ.out hl).mono ?_
    rintro e w1 ⟨t, rfl, ht, hk, hb⟩
    have HT := Lib.hid ht; have HK := Lib.hid hk; have HB1 := Lib.hid (grown_trans HG.out hb)
    clear ht hk hb
    go_wp2_with fail
    go_returns
    rw [HA.out.1, HA.out.2.1, HA.out.2.2]
    exact ⟨_, rfl, HT.out, HK.out, HB1.out⟩
set_option maxHeartbeats 4000000 in
theorem after_any {w : World} {B : Nat} {v : Value} {l : List Int} (h : Own w B 28 .u64 v l) (hB : B ≤ w.heap.size) (hl : l.length ≤ 1000000) (most : Int) (o : Ans) :
    Calls Try.prog 24 #[v, .int .i64 most, .agg #[.bool o.push, .int .u64 o.v, .int .i64 o.st]] w (AfterV w B v l most o) := by
  obtain ⟨p, x, st⟩ := o
  unfold AfterV
  dsimp only
  obtain ⟨a, cap, rfl, _, _⟩ := h.form
  have hg0 : w.grownBy (w.alloc (.cells #[.bool p, .int .u64 x, .int .i64 st] 30 (0, 0))) (Value.slice a l.length cap).ownBlock := World.grownBy_alloc w _ _
  have HO := Lib.hid (h.alloc (.cells #[.bool p, .int .u64 x, .int .i64 st] 30 (0, 0)))
  have hsz : B ≤ (w.alloc (.cells #[.bool p, .int .u64 x, .int .i64 st] 30 (0, 0))).heap.size := by simp; omega
  have hc : ∀ j, (w.alloc (.cells #[.bool p, .int .u64 x, .int .i64 st] 30 (0, 0))).cell? ⟨w.heap.size, j, none⟩ = (#[Value.bool p, .int .u64 x, .int .i64 st])[j]? := fun j => cell_of_row _ _ j _ _ _ (heap_alloc_new w _)
  have hne := own_ne h (Nat.le_refl _)
  have hlt : w.heap.size < (w.alloc (.cells #[.bool p, .int .u64 x, .int .i64 st] 30 (0, 0))).heap.size := by simp
  have HC := Lib.hid hc
  have HSZ := Lib.hid hsz
  have HG := Lib.hid hg0
  have HNE := Lib.hid hne
  have HLT := Lib.hid hlt
  clear h hg0 hsz hc hne hlt
  by_cases h6 : st = 6
  · subst h6
    have HD : Hid (doL l most ⟨p, x, 6⟩ = some l) := by simp [Hid, doL]
    go_enter Try.func24, Try.ntmps24
    go_wp2_with fail
    go_ret2
    rw [HD.out]
    exact ⟨_, rfl, ⟨l, HO.out, rfl⟩, HO.out, HG.out⟩
  · have h6' : (st == 6) = false := by simpa using h6
    have HD := Lib.hid (do_of_ask l most ⟨p, x, st⟩ h6)
    clear h6
    go_enter Try.func24, Try.ntmps24
    go_wp2_with fail
    refine (asked_any HO.out HSZ.out hl most ⟨p, x, st⟩).mono ?_
    rintro e w1 ⟨t, rfl, ht, hk, hb⟩
    have c1 : ∀ j, w1.cell? ⟨w.heap.size, j, none⟩ = (#[Value.bool p, .int .u64 x, .int .i64 st])[j]? := fun j => (grown_cell (B := B) (e := 28) (k := .u64) (l := l) hb HLT.out HNE.out j).trans (HC.out j)
    have e1 : w1.drew.cell? ⟨w.heap.size, 1, none⟩ = some (.int .u64 x) := c1 1
    have e2 : w1.drew.cell? ⟨w.heap.size, 2, none⟩ = some (.int .i64 st) := c1 2
    have f1 : w1.cell? ⟨w.heap.size, 1, none⟩ = some (.int .u64 x) := c1 1
    have f2 : w1.cell? ⟨w.heap.size, 2, none⟩ = some (.int .i64 st) := c1 2
    clear c1
    obtain ⟨a1, cc1, rfl, _, _⟩ := ht.form
    have HT := Lib.hid ht; have HK := Lib.hid hk; have HB1 := Lib.hid (grown_trans HG.out hb)
    clear ht hk hb
    generalize askV l ⟨p, x, st⟩ = av at *
    generalize askT l most ⟨p, x, st⟩ = at_ at *
    generalize askL l most ⟨p, x, st⟩ = al at *
    by_cases hv : av = x
    · have hv' : (av == x) = true := by simpa using hv
      by_cases hs : at_ = st
      · have hs' : (at_ == st) = true := by simpa using hs
        have HD2 : Hid (doL l most ⟨p, x, st⟩ = some al) := by unfold Hid; rw [HD.out, if_pos ⟨hv, hs⟩]
        clear hv hs
        go_wp2_with fail
        go_quiet (fail)
        go_wp2_with fail
        go_returns
        rw [HD2.out]
        exact ⟨_, rfl, ⟨_, HT.out.below (below_drewN (Below.refl _ _) _), rfl⟩, HK.out.below (below_drewN (Below.refl _ _) _), grown_trans HB1.out (grown_drewN _ _ _)⟩
      · have hs' : (at_ == st) = false := by simpa using hs
        have HD2 : Hid (doL l most ⟨p, x, st⟩ = none) := by unfold Hid; rw [HD.out, if_neg (fun h => hs h.2)]
        clear hv hs
        go_wp2_with fail
        go_quiet (fail)
        go_wp2_with fail
        go_returns
        rw [HD2.out]
        exact ⟨_, rfl, ⟨_, HT.out.below (below_drewN (Below.refl _ _) _), rfl⟩, HK.out.below (below_drewN (Below.refl _ _) _), grown_trans HB1.out (grown_drewN _ _ _)⟩
    · have hv' : (av == x) = false := by simpa using hv
      have HD2 : Hid (doL l most ⟨p, x, st⟩ = none) := by unfold Hid; rw [HD.out, if_neg (fun h => hv h.1)]
      clear hv
      go_wp2_with fail
      go_quiet (fail)
      go_wp2_with fail
      go_returns
      rw [HD2.out]
      exact ⟨_, rfl, ⟨_, HT.out.below (below_drewN (Below.refl _ _) _), rfl⟩, HK.out.below (below_drewN (Below.refl _ _) _), grown_trans HB1.out (grown_drewN _ _ _)⟩
theorem grown_new {w w1 w2 : World} {v : Value} {l : List Int} (h : Below w.heap.size w w1) (ho : Own w1 w.heap.size 28 .u64 v l) (hg : w1.grownBy w2 v.ownBlock) : Below w.heap.size w w2 :=
  h.grown hg h.size (fun g hgv => (World.ownsRow.lt ho g hgv).1)
set_option maxHeartbeats 4000000 in
theorem push_any {w : World} {v : Value} {l : List Int} (h : Ints w .u64 v l) (hl : l.length ≤ 1000000) (most x : Int) :
    Calls Try.prog 11 #[v, .int .i64 most, .int .u64 x] w fun e w' => New w (pushL l most x) e w' (fun t => .tuple #[t, .int .i64 (pushT l most)]) := by
  have HI := Lib.hid h
  clear h
  go_enter Try.func11, Try.ntmps11
  go_wp2_with fail
  refine (clone_any HI.out hl).mono ?_
  rintro e w1 ⟨t, rfl, ht, hb⟩
  have HT := Lib.hid ht; have HB := Lib.hid hb
  have HSZ := Lib.hid hb.size
  clear ht hb
  go_wp2_with fail
  refine (put_any HT.out HSZ.out hl most x).mono ?_
  rintro e w2 ⟨t2, rfl, ht2, hk, hg⟩
  have HT2 := Lib.hid ht2; have HB2 := Lib.hid (grown_new HB.out HT.out hg)
  clear ht2 hk hg
  go_wp2_with fail
  go_ret2
  exact ⟨_, rfl, HT2.out.ints, HB2.out⟩
set_option maxHeartbeats 4000000 in
theorem pop_any {w : World} {v : Value} {l : List Int} (h : Ints w .u64 v l) (hl : l.length ≤ 1000000) :
    Calls Try.prog 17 #[v] w fun e w' => New w (popL l) e w' (fun t => .tuple #[t, .int .u64 (popV l), .int .i64 (popT l)]) := by
  have HI := Lib.hid h
  clear h
  go_enter Try.func17, Try.ntmps17
  go_wp2_with fail
  refine (clone_any HI.out hl).mono ?_
  rintro e w1 ⟨t, rfl, ht, hb⟩
  have HT := Lib.hid ht; have HB := Lib.hid hb
  have HSZ := Lib.hid hb.size
  clear ht hb
  go_wp2_with fail
  refine (take_any HT.out HSZ.out hl).mono ?_
  rintro e w2 ⟨t2, rfl, ht2, hk, hg⟩
  have HT2 := Lib.hid ht2; have HB2 := Lib.hid (grown_new HB.out HT.out hg)
  clear ht2 hk hg
  go_wp2_with fail
  go_returns
  exact ⟨_, rfl, HT2.out.ints, HB2.out⟩
set_option maxHeartbeats 4000000 in
theorem do_any {w : World} {v : Value} {l : List Int} (h : Ints w .u64 v l) (hl : l.length ≤ 1000000) (most : Int) (o : Ans) :
    Calls Try.prog 13 #[v, .int .i64 most, .agg #[.bool o.push, .int .u64 o.v, .int .i64 o.st]] w (DoV w l most o) := by
  obtain ⟨p, x, st⟩ := o
  unfold DoV
  dsimp only
  have hb0 : Below w.heap.size w (w.alloc (.cells #[.bool p, .int .u64 x, .int .i64 st] 30 (0, 0))).drew := ((Below.refl _ _).alloc (Nat.le_refl _) _).drew
  have HI := Lib.hid (h.below hb0)
  have hc : ∀ j, (w.alloc (.cells #[.bool p, .int .u64 x, .int .i64 st] 30 (0, 0))).drew.cell? ⟨w.heap.size, j, none⟩ = (#[Value.bool p, .int .u64 x, .int .i64 st])[j]? := fun j => cell_of_row (w.alloc (.cells #[.bool p, .int .u64 x, .int .i64 st] 30 (0, 0))) _ j _ _ _ (heap_alloc_new w _)
  have hlt : w.heap.size < (w.alloc (.cells #[.bool p, .int .u64 x, .int .i64 st] 30 (0, 0))).drew.heap.size := by show _ < (w.alloc _).heap.size; simp
  have hc0 := hc 0; have hc1 := hc 1; have hc2 := hc 2
  simp at hc0 hc1 hc2
  have HC := Lib.hid hc
  have HLT := Lib.hid hlt
  have HB := Lib.hid hb0
  clear h hb0 hc hlt hc0 hc1 hc2
  go_enter Try.func13, Try.ntmps13
  go_wp2_with fail
  have hc0 := HC.out 0; have hc1 := HC.out 1; have hc2 := HC.out 2
  simp at hc0 hc1 hc2
  go_region_held3 (fun w' => w'.cell? ⟨w.heap.size, 0, none⟩ = some (.bool p) ∧ w'.cell? ⟨w.heap.size, 1, none⟩ = some (.int .u64 x) ∧ w'.cell? ⟨w.heap.size, 2, none⟩ = some (.int .i64 st)) (go_keep) (first
    | (go_at_call 23; (refine (clone_any HI.out hl).mono ?_); rintro e w6 ⟨t, rfl, ht, hb⟩; (have z0 := (hb.cell (p := ⟨w.heap.size, 0, none⟩) HLT.out).trans (HC.out 0)); (have z1 := (hb.cell (p := ⟨w.heap.size, 1, none⟩) HLT.out).trans (HC.out 1)); (have z2 := (hb.cell (p := ⟨w.heap.size, 2, none⟩) HLT.out).trans (HC.out 2)); simp at z0 z1 z2; (have HT := Lib.hid ht); (have HB6 := Lib.hid hb); (have HSZ6 := Lib.hid hb.size); clear ht hb)
    | (go_at_call 24; (refine (after_any HT.out HSZ6.out hl most ⟨p, x, st⟩).mono ?_); rintro e w7 ⟨t2, rfl, hm2, hk, hg⟩; (have z3 := (grown_cell (B := w.heap.size) (e := 28) (k := .u64) (l := l) hg (Nat.lt_of_lt_of_le HLT.out HB6.out.size) (own_far HT.out HLT.out) 0).trans z0); (have z4 := (grown_cell (B := w.heap.size) (e := 28) (k := .u64) (l := l) hg (Nat.lt_of_lt_of_le HLT.out HB6.out.size) (own_far HT.out HLT.out) 1).trans z1); (have z5 := (grown_cell (B := w.heap.size) (e := 28) (k := .u64) (l := l) hg (Nat.lt_of_lt_of_le HLT.out HB6.out.size) (own_far HT.out HLT.out) 2).trans z2); (have HM2 := Lib.hid hm2); (have HG := Lib.hid hg); clear hm2 hk hg))
  have hbb := below_trans HB.out HB6.out
  have HBE : Hid (Below w.heap.size w w7) := hbb.grown HG.out hbb.size (fun g hgv => Nat.le_of_lt (Nat.lt_of_lt_of_le HLT.out (World.ownsRow.lt HT.out g hgv).1))
  obtain ⟨m, hm, hme⟩ := HM2.out
  have HM := Lib.hid hm; have HME := Lib.hid hme
  clear hm hme hbb
  cases hd : doL l most ⟨p, x, st⟩ with
  | none =>
    clear HME
    have HD := Lib.hid hd
    clear hd
    go_wp2_with fail
    go_ret2
    rw [HD.out]
    exact ⟨_, rfl, .inl ⟨rfl, none, 0, rfl⟩, HBE.out⟩
  | some t3 =>
    rw [hd] at HME
    have HE : Hid (m = t3) := HME.out.symm
    have HD := Lib.hid hd
    clear hd HME
    go_wp2_with fail
    go_ret2
    rw [HD.out]
    rw [HE.out] at HM
    exact ⟨_, rfl, HM.out.ints, HBE.out⟩
/-- The closure of Run: its bound is in a cell. -/
theorem closed_any {w : World} {B : Nat} {v : Value} {l : List Int} (h : Own w B 28 .u64 v l) (hB : B ≤ w.heap.size) (hl : l.length ≤ 1000000) (most : Int) (o : Ans) (p : Nat) (hp : w.cell? ⟨p, 0, none⟩ = some (.int .i64 most)) :
    Calls Try.prog 27 #[v, .agg #[.bool o.push, .int .u64 o.v, .int .i64 o.st], .pointer (some ⟨p, 0, none⟩)] w (AfterV w B v l most o) := by
  obtain ⟨q, x, st⟩ := o
  unfold AfterV
  dsimp only
  obtain ⟨a, cap, rfl, _, _⟩ := h.form
  have hg0 : w.grownBy (w.alloc (.cells #[.bool q, .int .u64 x, .int .i64 st] 30 (0, 0))) (Value.slice a l.length cap).ownBlock := World.grownBy_alloc w _ _
  have HO := Lib.hid (h.alloc (.cells #[.bool q, .int .u64 x, .int .i64 st] 30 (0, 0)))
  have hsz : B ≤ (w.alloc (.cells #[.bool q, .int .u64 x, .int .i64 st] 30 (0, 0))).heap.size := by simp; omega
  have hcp : (w.alloc (.cells #[.bool q, .int .u64 x, .int .i64 st] 30 (0, 0))).cell? ⟨p, 0, none⟩ = some (.int .i64 most) := Lib.cell?_alloc_some _ hp
  have HSZ := Lib.hid hsz
  have HG := Lib.hid hg0
  clear h hg0 hsz
  go_enter Try.func27, Try.ntmps27
  go_wp2_with fail
  refine (after_any HO.out HSZ.out hl most ⟨q, x, st⟩).mono ?_
  rintro e w1 ⟨t, rfl, ht, hk, hg⟩
  have HT := Lib.hid ht; have HK := Lib.hid hk; have HG1 := Lib.hid (grown_trans HG.out hg)
  clear ht hk hg
  go_wp2_with fail
  go_ret2
  exact ⟨_, rfl, HT.out, HK.out, HG1.out⟩
/-- The fold over the answers. -/
def TurnV (w0 : World) (s : List Int) (most : Int) (l : List Ans) (e : Ending) (w' : World) : Prop := New w0 (runL s most l).1 e w' (fun t => .tuple #[t, .int .i64 (runL s most l).2])
set_option maxHeartbeats 4000000 in
theorem turn_any {w0 w : World} {B : Nat} {v vo : Value} {s : List Int} {l : List Ans} (hb0 : Below w0.heap.size w0 w) (hB0 : w0.heap.size ≤ B) (h : Own w B 28 .u64 v s) (hB : B ≤ w.heap.size) (ho : Ops w0 vo l) (hl : s.length + l.length ≤ 1000000) (most : Int) (p : Nat) (hpB : p < B) (hp : w.cell? ⟨p, 0, none⟩ = some (.int .i64 most)) :
    Calls Try.prog 26 #[v, vo, .func (.func 27) #[] #[.pointer (some ⟨p, 0, none⟩)]] w (TurnV w0 s most l) := by
  unfold TurnV
  have HS := Lib.hid ho
  obtain ⟨a2, cap2, rfl, _⟩ := ho
  have HO := Lib.hid h
  have HB0 := Lib.hid hb0
  have HP := Lib.hid hp
  have HL0 := Lib.hid hB0
  clear h hb0 hp hB0
  go_enter Try.func26, Try.ntmps26
  go_wp2_with fail
  go_loopw [0, 14] (fun nv i wr => ∃ (k : Nat) (now : List Int) (vv : Value), nv = vv ∧ i = .int .i64 k ∧ now.length ≤ s.length + k ∧ Hid (At s most l k now) ∧ Hid (Own wr B 28 .u64 vv now) ∧ Hid (Below B w wr)) (fun _ i _ => l.length - (intOf i).toNat)
  case atStart => exact ⟨0, s, _, rfl, rfl, Nat.le_refl _, At.zero _ _ _, HO.out, Below.refl _ _⟩
  case round =>
    obtain ⟨k, now, vv, hvv, rfl, hnl, HA, HI, HB⟩ := hrel
    have hv2 := hvv.symm
    clear hvv
    subst hv2
    obtain ⟨av, cv, rfl, _, _⟩ := HI.out.form
    have hkl := HA.out.le
    have HBw : Hid (Below w0.heap.size w0 wr) := HB0.out.trans (HB.out.mono HL0.out)
    by_cases hlt : k < l.length
    · obtain ⟨g, off, rfl, hgl, x0, x1, x2⟩ := HS.out.at_ HBw.out k hlt
      obtain ⟨o, hoo⟩ : ∃ o, l[k] = o := ⟨_, rfl⟩
      have HN : Hid (∀ t, doL now most o = some t → At s most l (k + 1) t) := fun t ht => HA.out.next hlt (by rw [hoo]; exact ht)
      have HST : Hid (doL now most o = none → runL s most l = (now, k)) := fun ht => HA.out.stop hlt (by rw [hoo]; exact ht)
      rw [hoo] at x0 x1 x2
      have hi1 : (0 : Int) ≤ (k : Int) := by omega
      have hi2 : (k : Int) < (l.length : Int) := by omega
      have hB2 : Below B wr (wr.alloc (.cells #[.bool o.push, .int .u64 o.v, .int .i64 o.st] 30 (0, 0))) := (Below.refl _ _).alloc (Nat.le_trans hB HB.out.size) _
      have HBa := Lib.hid (HB.out.trans hB2)
      have HIa := Lib.hid (HI.out.alloc (.cells #[.bool o.push, .int .u64 o.v, .int .i64 o.st] 30 (0, 0)))
      have hpa : (wr.alloc (.cells #[.bool o.push, .int .u64 o.v, .int .i64 o.st] 30 (0, 0))).cell? ⟨p, 0, none⟩ = some (.int .i64 most) := ((HB.out.trans hB2).cell (p := ⟨p, 0, none⟩) hpB).trans HP.out
      have HPa := Lib.hid hpa
      have HSa := Lib.hid (Nat.le_trans hB HBa.out.size)
      clear hoo hB2 hpa
      go_wp2_with fail
      refine (closed_any HIa.out HSa.out (by omega) most o p HPa.out).mono ?_
      rintro e w2 ⟨t, rfl, ⟨m, hm, hme⟩, hk, hg⟩
      have HG := Lib.hid (HBa.out.trans (grown_below hg HIa.out HSa.out))
      have HM := Lib.hid hm; have HK := Lib.hid hk; have HME := Lib.hid hme
      clear hm hme hk hg x0 x1 x2
      cases hd : doL now most o with
      | none =>
        have HD := Lib.hid hd
        have HR := Lib.hid (HST.out hd)
        clear hd
        go_wp2_with fail
        go_ret2
        rw [HR.out]
        exact ⟨_, rfl, HK.out.ints, HB0.out.trans (HG.out.mono HL0.out)⟩
      | some t2 =>
        have HN2 := Lib.hid (HN.out t2 hd)
        have hl2 := do_len hd
        have HD := Lib.hid hd
        rw [hd] at HME
        have HE : Hid (t2 = m) := HME.out
        rw [← HE.out] at HM
        clear hd HME
        go_wp2_with fail
        go_roundw
        case rel => exact ⟨k + 1, t2, t, rfl, by go_num, by omega, HN2.out, HM.out, HG.out⟩
        case measure => simp [intOf]; omega
    · obtain rfl : k = l.length := by omega
      have HR := Lib.hid HA.out.all
      go_wp2_with fail
      go_ret2
      rw [HR.out]
      exact ⟨_, rfl, HI.out.ints, HBw.out⟩
set_option maxHeartbeats 4000000 in
theorem run_any {w : World} {v vo : Value} {s : List Int} {l : List Ans} (h : Ints w .u64 v s) (ho : Ops w vo l) (hl : s.length + l.length ≤ 1000000) (most : Int) :
    Calls Try.prog 19 #[v, .int .i64 most, vo] w (RunV w s most l) := by
  have hb0 : Below w.heap.size w (w.alloc (.cells #[.int .i64 most] 3 (0, 0))) := (Below.refl _ _).alloc (Nat.le_refl _) _
  have HI := Lib.hid (h.below hb0)
  have HS := Lib.hid ho
  have HB := Lib.hid hb0
  have hc : (w.alloc (.cells #[.int .i64 most] 3 (0, 0))).cell? ⟨w.heap.size, 0, none⟩ = some (.int .i64 most) := cell_new _ _ _
  have hlt : w.heap.size < (w.alloc (.cells #[.int .i64 most] 3 (0, 0))).heap.size := by simp
  have HC := Lib.hid hc
  have HLT := Lib.hid hlt
  clear h ho hb0 hc hlt
  go_enter Try.func19, Try.ntmps19
  go_wp2_with fail
  refine (clone_any HI.out (by omega)).mono ?_
  rintro e w1 ⟨t, rfl, ht, hb⟩
  have HT := Lib.hid ht
  have HC1 := Lib.hid ((hb.cell (p := ⟨w.heap.size, 0, none⟩) HLT.out).trans HC.out)
  have HB1 := Lib.hid (below_trans HB.out hb)
  have HSZ := Lib.hid hb.size
  clear ht hb
  go_wp2_with fail
  refine (turn_any HB1.out (Nat.le_of_lt HLT.out) HT.out HSZ.out HS.out hl most w.heap.size HLT.out HC1.out).mono ?_
  rintro e w2 ⟨t2, rfl, ht2, hb2⟩
  have HT2 := Lib.hid ht2; have HB2 := Lib.hid hb2
  clear ht2 hb2
  go_wp2_with fail
  go_ret2
  exact ⟨_, rfl, HT2.out, HB2.out⟩
end Go.Proofs.Ytjmbjlijkohkfaa.lf
