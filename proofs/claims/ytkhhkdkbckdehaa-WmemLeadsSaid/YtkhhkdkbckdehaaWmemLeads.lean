/- WmemLeads: the accesses, one behind the other, lead from the first words to the last ones: no condition. -/
import Derived.Test.YtkhhkdkbckdehaaActs
namespace Go.Proofs.Ytkhhkdkbckdehaa.wmemLeads
open Go.ChangeShapes Go.WideShapes Go.ChangeAt Go.RowKit frame lift sep wm
set_option linter.unusedVariables false

/-! ### The plain theorem -/
def aAt : Acc → Int
  | .ld a _ => a | .st a _ _ => a | .sw a _ _ => a | .no a _ => a
def aOld : Acc → Int
  | .ld _ w => w | .st _ o _ => o | .sw _ o _ => o | .no _ w => w
def aNew : Acc → Int
  | .ld _ w => w | .st _ _ n => n | .sw _ _ n => n | .no _ w => w
/-- An access that may come next. -/
def Valid (ws : List Int) (n : Acc) : Prop := ∃ k : Nat, aAt n = k ∧ k < ws.length ∧ nth ws k = aOld n
def app (ws : List Int) (n : Acc) : List Int := ws.set (aAt n).toNat (aNew n)
def stAt (l : List Int) (ns : List Acc) (i : Nat) : List Int := (ns.take i).foldl app l
def Led (l : List Int) (S : St) : Prop := S.ns.foldl app l = S.ws ∧ ∀ (i : Nat) (h : i < S.ns.length), Valid (stAt l S.ns i) S.ns[i]
theorem app_len (ws : List Int) (n : Acc) : (app ws n).length = ws.length := by simp [app]
theorem stAt_len (l : List Int) (ns : List Acc) (i : Nat) : (stAt l ns i).length = l.length := by
  unfold stAt
  generalize ns.take i = x
  induction x generalizing l with
  | nil => rfl
  | cons a x ih => rw [List.foldl_cons, ih, app_len]
theorem set_nth (ws : List Int) (k : Nat) (h : k < ws.length) : ws.set k (nth ws k) = ws := by
  have e : nth ws k = ws[k] := by simp [nth, List.getD, h]
  rw [e, List.set_getElem_self]
theorem do_step (S : St) (a : ActD) : doS S a = S ∨ ∃ n, (doS S a).ns = S.ns ++ [n] ∧ Valid S.ws n ∧ (doS S a).ws = app S.ws n := by
  have key : ∀ x, inB S x = true → ∃ k : Nat, x = k ∧ k < S.ws.length ∧ at_ S x = nth S.ws k := fun x hx => by
    obtain ⟨k, rfl, hk⟩ := inB_nat hx
    exact ⟨k, rfl, hk, rfl⟩
  unfold doS
  split
  · unfold ldS
    cases hB : inB S a.at_ with
    | false => exact .inl rfl
    | true =>
      obtain ⟨k, hk, hl, hv⟩ := key _ hB
      refine .inr ⟨_, rfl, ⟨k, hk, hl, hv.symm⟩, ?_⟩
      show S.ws = S.ws.set (a.at_).toNat (at_ S a.at_)
      rw [hv, hk, Int.toNat_natCast, set_nth _ _ hl]
  · split
    · unfold stS
      cases hB : inB S a.at_ with
      | false => exact .inl rfl
      | true =>
        obtain ⟨k, hk, hl, hv⟩ := key _ hB
        exact .inr ⟨_, rfl, ⟨k, hk, hl, hv.symm⟩, rfl⟩
    · unfold swS
      cases hB : inB S a.at_ with
      | false => exact .inl rfl
      | true =>
        obtain ⟨k, hk, hl, hv⟩ := key _ hB
        cases hE : (at_ S a.at_ == oldOf S a) with
        | true =>
          refine .inr ⟨_, rfl, ⟨k, hk, hl, ?_⟩, rfl⟩
          rw [← hv]
          exact (by simpa using hE : at_ S a.at_ = oldOf S a)
        | false =>
          refine .inr ⟨_, rfl, ⟨k, hk, hl, hv.symm⟩, ?_⟩
          show S.ws = S.ws.set (a.at_).toNat (at_ S a.at_)
          rw [hv, hk, Int.toNat_natCast, set_nth _ _ hl]
theorem led_play (l : List Int) (acts : List ActD) (k : Nat) : Led l (play l acts k) := by
  induction k with
  | zero => exact ⟨rfl, fun i h => by simp [play] at h⟩
  | succ k ih =>
    show Led l (doS (play l acts k) _)
    rcases do_step (play l acts k) (acts.getD k ⟨0, 0, 0, 0, 0⟩) with h | ⟨n, h1, h2, h3⟩
    · rw [h]; exact ih
    · refine ⟨?_, ?_⟩
      · rw [h1, List.foldl_append, ih.1, h3]
        rfl
      · rw [h1]
        intro i hi
        by_cases hlt : i < (play l acts k).ns.length
        · have := ih.2 i hlt
          rw [List.getElem_append_left hlt]
          unfold stAt at *
          rwa [List.take_append_of_le_length (by omega)]
        · have e : i = (play l acts k).ns.length := by simp at hi; omega
          subst e
          have e1 : ((play l acts k).ns ++ [n])[(play l acts k).ns.length] = n := by simp
          rw [e1]
          unfold stAt
          rw [List.take_append_of_le_length (Nat.le_refl _), List.take_length, ih.1]
          exact h2

/-! ### Things -/
/-- Accesses that lie in a block of their own. -/
def accs (v : Value) (l : List Acc) : Thing where
  holds F w := (∀ k, F k → k < w.heap.size) ∧ (0 < l.length → ∀ g, v.ownBlock = some g → F g) ∧ Accs w v l
  stays := fun {F w w'} ⟨h1, h2, h3⟩ hs => by
    have hl : ∀ k, F k → k < w'.heap.size := fun k hk => by
      have h := hs k hk
      rw [Array.getElem?_eq_getElem (h1 k hk)] at h
      exact (Array.getElem?_eq_some_iff.1 h).1
    refine ⟨hl, h2, ?_⟩
    obtain ⟨a, cap, rfl, k1, k2, k3⟩ := h3
    refine ⟨a, cap, rfl, k1, k2, fun hp => ?_⟩
    obtain ⟨g, o, rfl, hg, hc⟩ := k3 hp
    have hF := h2 hp g rfl
    exact ⟨g, o, rfl, hl g hF, fun j hj => (World.cell?_of_block (w := w) (a := ⟨g, o + j, none⟩) (hs g hF)).trans (hc j hj)⟩
  lt := fun h => h.1
section
variable {W w w' : World} {L : List Thing}
theorem accs_new {v : Value} {l : List Acc} (h : Here W L w) (hb : Below w.heap.size w w') (ha : Accs w' v l) (hf : ∀ g, v.ownBlock = some g → w.heap.size ≤ g) : Here W (accs v l :: L) w' := by
  refine h.new hb (F := fun k => w.heap.size ≤ k ∧ k < w'.heap.size) ⟨fun k hk => hk.2, fun hp g hg => ⟨hf g hg, ?_⟩, ha⟩ (fun k hk => hk.1)
  obtain ⟨a, cap, rfl, _, _, h3⟩ := ha
  obtain ⟨g', o, rfl, hg', _⟩ := h3 hp
  simp [Value.ownBlock] at hg
  omega
theorem accs_here {v : Value} {l : List Acc} (h : Here W L w) (hm : accs v l ∈ L) : Accs w v l := by
  obtain ⟨F, hh, _⟩ := h.get _ hm
  exact hh.2.2
/-- A word of a row of the call's own is written. -/
theorem wrow_set {g n cap : Nat} {l : List Int} (h : Here W (wrow (.slice (some ⟨g, 0, none⟩) n cap) l :: L) w) (k : Nat) (x : Int) : Here W (wrow (.slice (some ⟨g, 0, none⟩) n cap) (l.set k x) :: L) (w.setCell ⟨g, k, none⟩ (.int .u64 x)) :=
  h.step fun F ⟨h1, h2, h3⟩ => by
    have hF := h3 g rfl
    have e : Gr F w (w.setCell ⟨g, k, none⟩ (.int .u64 x)) = F := by
      funext j
      unfold Gr
      simp only [World.size_setCell, eq_iff_iff]
      constructor
      · intro h
        rcases h with h | h
        · exact h
        · omega
      · exact .inl
    rw [e]
    have hn : n = l.length := by
      rcases h2.2 with ⟨hv, _⟩ | ⟨_, _, _, hv, _⟩
      · simp at hv
      · simp at hv; exact hv.2.1
    subst hn
    have h4 := (h2.stored k (.int .u64 x)).1
    exact ⟨⟨fun j hj => by simpa using h1 j hj, by rw [List.length_set, List.map_set]; exact h4, h3⟩, (Chg.refl _ _).setCell (.inl hF) _⟩
end
theorem wrow_at {W w : World} {L : List Thing} {g n cap : Nat} {l : List Int} (h : Here W L w) (hm : wrow (.slice (some ⟨g, 0, none⟩) n cap) l ∈ L) (k : Nat) (hk : k < l.length) :
    w.cell? ⟨g, k, none⟩ = some (.int .u64 (nth l k)) ∧ w.frozen? ⟨g, k, none⟩ = false ∧ g < w.heap.size := by
  obtain ⟨F, ⟨h1, h2⟩, _⟩ := h.get _ hm
  obtain ⟨g', cap', hv, hF, hlt, _, _, hc, hf⟩ := h2.at_ (by omega)
  simp only [Value.slice.injEq, Option.some.injEq, Addr.mk.injEq, and_true] at hv
  obtain ⟨rfl, _, rfl⟩ := hv
  refine ⟨?_, hf k, hlt⟩
  rw [hc k (by omega)]
  simp [nth, List.getD, hk]
def Rel (w : World) (vn : Value) (l : List Int) (m c : Nat) (a5 : Option Addr) (c5 : Nat) (S : St) (k : Nat) (wr : World) : Prop := Here w [wrow vn (stAt l S.ns k), accs (.slice a5 S.ns.length c5) S.ns, mem m S, ref c S] wr
def Rel1 (w : World) (m c : Nat) (S : St) (wr : World) : Prop := Here w [mem m S, ref c S] wr
set_option maxRecDepth 100000 in
set_option maxHeartbeats 4000000 in
theorem walk (v0 : Value) (l : List Int) (v1 : Value) (acts : List ActD) (w : World) (f0 : Ints w .u64 v0 l) (z0 : Fit .u64 l) (f1 : Acts w v1 acts) (z1 : ActsOk acts) :
    Calls Try.prog 4 #[v0, v1] w fun e w' => e = .returned (.bool true) ∧ Below w.heap.size w w' := by
  clear z0
  have HS := Lib.hid f0
  have HZ1 := Lib.hid z1
  have HS1 := Lib.hid f1
  obtain ⟨aa, capa, rfl⟩ := acts_form f1
  obtain ⟨a0, cap0, rfl⟩ := ints_form f0
  clear f1 z1 f0
  by_cases hbig : 1024 < l.length
  · go_enter Try.func4, Try.ntmps4
    go_wp2_with fail
    refine (shown_any _).mono ?_
    rintro e w1 ⟨rfl, hb⟩
    go_wp2_with fail
    refine (new_big (HS.out.below hb) hbig).mono ?_
    rintro e w2 ⟨rfl, rfl⟩
    go_wp2_with fail
    refine (ref_new_big (HS.out.below hb) hbig).mono ?_
    rintro e w2 ⟨rfl, rfl⟩
    go_wp2_with fail
    go_ret
    exact ⟨rfl, hb⟩
  have hn : l.length ≤ 1024 := by omega
  clear hbig
  by_cases hla : 200 < l.length ∨ 200 < acts.length
  · rcases hla with hla | hla
    all_goals
      go_enter Try.func4, Try.ntmps4
      go_wp2_with fail
      refine (shown_any _).mono ?_
      rintro e w1 ⟨rfl, hb⟩
      go_wp2_with fail
      refine (new_in (Here.of_below hb) (HS.out.below hb) hn).mono ?_
      rintro e w2 ⟨m, rfl, hh⟩
      have HH := Lib.hid hh; clear hh
      go_wp2_with fail
      refine (ref_new_in HH.out (HS.out.below HH.out.below) hn).mono ?_
      rintro e w3 ⟨c, rfl, hh3⟩
      have H3 := Lib.hid hh3; clear hh3
      go_wp2_with fail
      all_goals
        go_ret
        exact ⟨rfl, H3.out.below⟩
  have hl2 : l.length ≤ 200 := by omega
  have hla1 : acts.length ≤ 200 := by omega
  clear hla hn
  go_enter Try.func4, Try.ntmps4
  go_wp2_with fail
  refine (shown_any _).mono ?_
  rintro e w1 ⟨rfl, hb⟩
  go_wp2_with fail
  refine (new_in (Here.of_below hb) (HS.out.below hb) (by omega)).mono ?_
  rintro e w2 ⟨m, rfl, hh⟩
  have HH := Lib.hid hh; clear hh
  go_wp2_with fail
  refine (ref_new_in HH.out (HS.out.below HH.out.below) (by omega)).mono ?_
  rintro e w3 ⟨c, rfl, hh3⟩
  have H3 := Lib.hid hh3.swap; clear hh3 hb
  go_wp2_with fail
  go_loopw [10] (fun i wr => ∃ k : Nat, k ≤ acts.length ∧ i = .int .i64 k ∧ Rel1 w m c (play l acts k) wr) (fun i _ => acts.length - (intOf i).toNat)
  case atStart => exact ⟨0, Nat.zero_le _, rfl, H3.out⟩
  case round =>
    obtain ⟨j, hj, rfl, hr⟩ := hrel
    have HR := Lib.hid hr; clear hr
    obtain ⟨hp1, hp2⟩ := play_len l acts j
    by_cases hlt : j < acts.length
    · obtain ⟨ba, offa, rfl, x0, x1, x2, x3, x4⟩ := acts_at HS1.out HR.out.below j hlt
      have hok := HZ1.out acts[j] (List.getElem_mem hlt)
      have HOK := Lib.hid hok
      have HP := Lib.hid (And.intro hp1 hp2)
      clear hok hp1 hp2
      have hi1 : (0 : Int) ≤ (j : Int) := by omega
      have hi2 : (j : Int) < (acts.length : Int) := by omega
      go_wp2_with fail
      refine (does_any HR.out (by have := HP.out.1; omega) acts[j] HOK.out).mono ?_
      rintro e w4 ⟨rfl, h4⟩
      rw [play_succ l acts j hlt] at h4
      have H4 := Lib.hid h4; clear h4 x0 x1 x2 x3 x4
      go_wp2_with fail
      go_roundw
      case rel => exact ⟨j + 1, by omega, by go_num, H4.out⟩
      case measure => simp [intOf]; omega
    · obtain rfl : j = acts.length := by omega
      obtain ⟨S, hS⟩ : ∃ S, S = play l acts acts.length := ⟨_, rfl⟩
      have hled := led_play l acts acts.length
      rw [← hS] at HR hp1 hp2 hled
      have HLED := Lib.hid hled
      have hsl : S.ns.length ≤ 1000000 := by omega
      have HWL := Lib.hid hp2
      clear hled hS hp1 hp2
      have hhr : Here w [mem m S, ref c S] wr := HR.out
      have hN0 : RowOf (wr.alloc (Obj.cells #[] 33)) (fun g => wr.heap.size ≤ g ∧ g < (wr.alloc (Obj.cells #[] 33)).heap.size) 33 1 (.slice (some ⟨wr.heap.size, 0, none⟩) 0 0) 0 [] :=
        ⟨World.ownsRow_lit wr #[] 0 (Nat.zero_le _) (by simp [maxLen]) (by simp), fun g hg => by
          simp [Value.ownBlock] at hg
          subst hg
          simp⟩
      have HN0 := Lib.hid hN0; clear hN0
      have hb0 : Below wr.heap.size wr (wr.alloc (Obj.cells #[] 33)) := (Below.refl _ _).alloc (Nat.le_refl _) _
      have HB0 := Lib.hid hb0; clear hb0
      rcases HS.out with ⟨hl, _⟩ | ⟨h0, b, off, cap, hv, hcap, hmax, hbl, hc⟩
      · subst hl
        have hns : S.ns.length = 0 := by
          by_cases hp : S.ns.length = 0
          · exact hp
          · obtain ⟨k, _, hk, _⟩ := HLED.out.2 0 (by omega)
            simp [stAt] at hk
        obtain rfl : S = ⟨[], []⟩ := by
          obtain ⟨ws, ns⟩ := S
          have h1 : ws = [] := List.eq_nil_of_length_eq_zero (by have := HWL.out; simpa using this)
          have h2 : ns = [] := List.eq_nil_of_length_eq_zero hns
          rw [h1, h2]
        have H4 := Lib.hid (Here.row_new (l := []) hhr HN0.out HB0.out)
        clear hns hhr HWL HLED HR hsl
        cases a0
        all_goals
          go_wp2_with fail
          refine (since_new H4.out (b := m) (S := ⟨[], []⟩) (by simp) (by simp) 0).mono ?_
          rintro e w5 ⟨v5, rfl, ha5, hb5, hf5⟩
          have H5 := Lib.hid (H4.out.on hb5)
          obtain ⟨a5, c5, rfl, hn5, hm5, hx5⟩ := id ha5
          clear hx5 hb5 hf5 ha5
          go_wp2_with fail
          refine wp_loop_rounds 1 ?_
          rw [rounds_succ]
          go_wp2_with fail
          refine (words_in H5.out (b := m) (S := ⟨[], []⟩) (by simp) (by simp)).mono ?_
          rintro e w6 ⟨v6, rfl, h6⟩
          have HI1 := Lib.hid (ints_here h6 (List.mem_cons_self ..))
          have HI2 := Lib.hid (ints_here (v := .slice (some ⟨wr.heap.size, 0, none⟩) 0 0) (l := []) h6 (by simp))
          have H6 := Lib.hid h6; clear h6
          go_wp2_with fail
          refine (same_words HI1.out HI2.out (by simp)).mono ?_
          rintro e w7 ⟨rfl, hb7⟩
          have H7 := Lib.hid (H6.out.on hb7); clear hb7
          go_wp2_with fail
          refine (count_any H7.out (b := m) (S := ⟨[], []⟩) (by simp)).mono ?_
          rintro e w8 ⟨rfl, rfl⟩
          go_wp2_with fail
          go_ret
          exact ⟨rfl, H7.out.below⟩
      · simp only [Value.slice.injEq, true_and] at hv
        obtain ⟨rfl, rfl⟩ := hv
        unfold maxLen at hmax
        have HC := Lib.hid hc; clear hc
        obtain ⟨i, hi, hz0, hz1, hz2⟩ := info_parts info64
        have J1 := Lib.hid hi; have J2 := Lib.hid hz0; have J3 := Lib.hid hz1; have J4 := Lib.hid hz2; clear hi hz0 hz1 hz2
        have HBW := Lib.hid HR.out.below
        go_wp2_with ((at_builtin; refine wpList_append_lies _ rfl _ _ 22 rfl 0 33 i (.int .u64 0) 1 8 Try.underlying22 J1.out J2.out J3.out J4.out rfl (by decide) _ 0 _ rfl HN0.out.1 ⟨b, off, none⟩ l.length cap0 (l.map (Value.int .u64)) rfl ?c0 ?c1 (ints_oneCell _ _) h0 ?c3 ?c4 (Nat.zero_le _) (wr.heap.size + 1) (by simp) ?_))
        case c0 => simp
        case c1 =>
          intro j u hj
          obtain ⟨hjl, hju⟩ := List.getElem?_eq_some_iff.1 hj
          rw [add_plain, HB0.out.cell (p := ⟨b, off + j, none⟩) (Nat.lt_of_lt_of_le hbl HBW.out.size), HBW.out.cell (p := ⟨b, off + j, none⟩) hbl]
          have hjl' : j < l.length := by simpa using hjl
          rw [HC.out j hjl', ← hju]
          simp [nth, List.getD, hjl']
        case c3 => simp only [maxLen]; omega
        case c4 => omega
        intro g cap9 w4 hown hgrow hat hlt9
        have hf : New1 wr w4 33 .u64 (.slice (some ⟨g, 0, none⟩) l.length cap9) l := by
          refine ⟨by simpa using hown, fun g' hg => ?_⟩
          simp [Value.ownBlock] at hg hat
          subst hg
          rcases hat with rfl | rfl
          · exact ⟨Nat.le_refl _, hlt9⟩
          · exact ⟨by omega, hlt9⟩
        have hb1 : Below wr.heap.size wr w4 := HB0.out.grown hgrow HB0.out.size (fun k hk => by simp [Value.ownBlock] at hk; omega)
        have hcap9 : l.length ≤ cap9 ∧ cap9 ≤ maxLen := by
          obtain ⟨_, _, hv, h1, h2⟩ := hf.slice
          simp only [Value.slice.injEq] at hv
          obtain ⟨_, _, rfl⟩ := hv
          exact ⟨h1, h2⟩
        obtain ⟨hcap91, hcap92⟩ := hcap9
        unfold maxLen at hcap92
        have H4 := Lib.hid (Here.row_new hhr hf hb1)
        clear hown hgrow hat hf hb1 hhr
        go_wp2_with fail
        refine (since_new H4.out (b := m) (S := S) (by simp) hsl 0).mono ?_
        rintro e w5 ⟨v5, rfl, ha5, hb5, hf5⟩
        rw [show S.ns.drop (0 : Int).toNat = S.ns from by simp] at ha5
        have h5 := accs_new H4.out hb5 ha5 hf5
        obtain ⟨a5, c5, rfl, hn5, hm5, hx5⟩ := id ha5
        clear hx5 hb5 hf5 ha5
        unfold maxLen at hm5
        have H5 := Lib.hid h5.swap; clear h5 H4
        go_wp2_with fail
        go_loopw [13] (fun i wr => ∃ k : Nat, k ≤ S.ns.length ∧ i = .int .i64 k ∧ Rel w (.slice (some ⟨g, 0, none⟩) l.length cap9) l m c a5 c5 S k wr) (fun i _ => S.ns.length - (intOf i).toNat)
        case atStart => exact ⟨0, Nat.zero_le _, rfl, H5.out⟩
        case round =>
          obtain ⟨i, hi, rfl, hr⟩ := hrel
          have HR := Lib.hid hr; clear hr
          by_cases hlt : i < S.ns.length
          · skip
            obtain ⟨n, hn⟩ : ∃ n, n = S.ns[i] := ⟨_, rfl⟩
            have hval := HLED.out.2 i hlt
            rw [← hn] at hval
            have hacc := accs_here (v := .slice a5 S.ns.length c5) (l := S.ns) HR.out (by simp)
            obtain ⟨g5, o5, rfl, hg5, hc5⟩ := (acc_open hacc).2 (by omega)
            clear hacc
            obtain ⟨k, hk1, hk2, hk3⟩ := hval
            have hwr := wrow_at (g := g) (n := l.length) (cap := cap9) (l := stAt l S.ns i) HR.out (by simp) k hk2
            obtain ⟨hnow, hnowf, hgl⟩ := hwr
            rw [hk3] at hnow
            have hst : stAt l S.ns (i + 1) = (stAt l S.ns i).set k (aNew n) := by
              unfold stAt
              rw [List.take_succ_eq_append_getElem hlt, List.foldl_append, ← hn]
              show app _ n = _
              unfold app
              rw [hk1, Int.toNat_natCast]
            have HST := Lib.hid hst
            rw [stAt_len] at hk2
            have hi1 : (0 : Int) ≤ (i : Int) := by omega
            have hi2 : (i : Int) < (S.ns.length : Int) := by omega
            have hi3 : (0 : Int) ≤ (k : Int) := by omega
            have hi4 : (k : Int) < (l.length : Int) := by omega
            have hnowA : ∀ o, (wr.alloc o).cell? ⟨g, k, none⟩ = some (.int .u64 (aOld n)) := fun o => (World.cell?_alloc_some wr ⟨g, k, none⟩ o (by rw [hnow]; rfl)).trans hnow
            clear hst hk3
            cases n with
            | ld a x =>
              simp only [aAt] at hk1
              subst hk1
              obtain ⟨p0, p1, p2, p3, p4⟩ := accs_at (v := undef) hc5 i hlt (x0 := .int .u8 108) (x1 := .int .i64 k) (x2 := .int .u64 x) (x3 := .int .u64 x) (x4 := .bool true) (by rw [← hn]; rfl)
              clear hc5 hn
              simp only [aOld] at hnow hnowA
              go_wp2_with fail
              go_quiet (fail)
              go_wp2_with fail
              go_roundw
              case rel =>
                refine ⟨i + 1, by omega, by go_num, ?_⟩
                unfold Rel
                rw [HST.out]
                first
                  | exact wrow_set ((HR.out.alloc _).on (drewN_below (Below.refl _ _) _)) k _
                  | exact (wrow_set (HR.out.alloc _) k _).on (drewN_below (Below.refl _ _) _)
              case measure => simp [intOf]; omega
            | st a o x =>
              simp only [aAt] at hk1
              subst hk1
              obtain ⟨p0, p1, p2, p3, p4⟩ := accs_at (v := undef) hc5 i hlt (x0 := .int .u8 115) (x1 := .int .i64 k) (x2 := .int .u64 o) (x3 := .int .u64 x) (x4 := .bool true) (by rw [← hn]; rfl)
              clear hc5 hn
              simp only [aOld] at hnow hnowA
              go_wp2_with fail
              go_quiet (fail)
              go_wp2_with fail
              go_roundw
              case rel =>
                refine ⟨i + 1, by omega, by go_num, ?_⟩
                unfold Rel
                rw [HST.out]
                first
                  | exact wrow_set ((HR.out.alloc _).on (drewN_below (Below.refl _ _) _)) k _
                  | exact (wrow_set (HR.out.alloc _) k _).on (drewN_below (Below.refl _ _) _)
              case measure => simp [intOf]; omega
            | sw a o x =>
              simp only [aAt] at hk1
              subst hk1
              obtain ⟨p0, p1, p2, p3, p4⟩ := accs_at (v := undef) hc5 i hlt (x0 := .int .u8 99) (x1 := .int .i64 k) (x2 := .int .u64 o) (x3 := .int .u64 x) (x4 := .bool true) (by rw [← hn]; rfl)
              clear hc5 hn
              simp only [aOld] at hnow hnowA
              go_wp2_with fail
              go_quiet (fail)
              go_wp2_with fail
              go_roundw
              case rel =>
                refine ⟨i + 1, by omega, by go_num, ?_⟩
                unfold Rel
                rw [HST.out]
                first
                  | exact wrow_set ((HR.out.alloc _).on (drewN_below (Below.refl _ _) _)) k _
                  | exact (wrow_set (HR.out.alloc _) k _).on (drewN_below (Below.refl _ _) _)
              case measure => simp [intOf]; omega
            | no a x =>
              simp only [aAt] at hk1
              subst hk1
              obtain ⟨p0, p1, p2, p3, p4⟩ := accs_at (v := undef) hc5 i hlt (x0 := .int .u8 99) (x1 := .int .i64 k) (x2 := .int .u64 x) (x3 := .int .u64 x) (x4 := .bool false) (by rw [← hn]; rfl)
              clear hc5 hn
              simp only [aOld] at hnow hnowA
              go_wp2_with fail
              go_quiet (fail)
              go_wp2_with fail
              go_roundw
              case rel =>
                refine ⟨i + 1, by omega, by go_num, ?_⟩
                unfold Rel
                rw [HST.out]
                first
                  | exact wrow_set ((HR.out.alloc _).on (drewN_below (Below.refl _ _) _)) k _
                  | exact (wrow_set (HR.out.alloc _) k _).on (drewN_below (Below.refl _ _) _)
              case measure => simp [intOf]; omega
          · obtain rfl : i = S.ns.length := by omega
            have hst : stAt l S.ns S.ns.length = S.ws := by unfold stAt; rw [List.take_length]; exact HLED.out.1
            have hrr : Here w [wrow (.slice (some ⟨g, 0, none⟩) l.length cap9) S.ws, accs (.slice a5 S.ns.length c5) S.ns, mem m S, ref c S] wr := by rw [← hst]; exact HR.out
            have HR2 := Lib.hid hrr
            clear hst hrr HR
            go_wp2_with fail
            refine (words_in HR2.out (b := m) (S := S) (by simp) (by rw [HWL.out]; omega)).mono ?_
            rintro e w6 ⟨v6, rfl, h6⟩
            have HI1 := Lib.hid (ints_here h6 (List.mem_cons_self ..))
            have HI2 := Lib.hid (ints_here (v := .slice (some ⟨g, 0, none⟩) l.length cap9) (l := S.ws) h6 (by simp))
            have H6 := Lib.hid h6; clear h6
            go_wp2_with fail
            refine (same_words HI1.out HI2.out (by rw [HWL.out]; omega)).mono ?_
            rintro e w7 ⟨rfl, hb7⟩
            have H7 := Lib.hid (H6.out.on hb7); clear hb7
            go_wp2_with fail
            refine (count_any H7.out (b := m) (S := S) (by simp)).mono ?_
            rintro e w8 ⟨rfl, rfl⟩
            go_wp2_with fail
            go_ret
            exact ⟨rfl, H7.out.below⟩
theorem own : ownKnob Try.prog.godebug = none := by kernel_rfl
theorem laidOut : laidOutB Try.prog = true := by kernel_rfl
theorem cells_uint64 : Try.prog.cellsOf 33 = 1 := by kernel_rfl
set_option maxRecDepth 100000 in
theorem lifted (os : Os) (started : os.Started) (H : Type) (enc : TypeId × Value → H) :
    ReturnsInHanded {} Try.checked os 4 .any (Rows.wmemLeadsSpec.pre6 enc Try.prog Try.f4 Rows.wmemLeadsRow.domain false) (Rows.wmemLeadsSpec.post enc Try.prog Try.f4 false true false false) := by
  refine returnsInHanded_of_change (C := Try.checked) own started (by kernel_rfl) Try.func4
    (ChangeSpec.witness6 (enc := enc) (C := Try.checked) false ⟨#[], #[.slice none 0 0, .slice none 0 0], []⟩ 8 (by kernel_rfl) (by kernel_rfl) (by kernel_rfl) (by kernel_rfl)) ?_
  intro W base args ds gs before hval0 hW hcnd _
  have hval : ∀ (j : Nat) t v, Try.f4.params[j]? = some t → args[j]? = some v → Value.okWide Try.prog W .any base t v := hval0
  have hW' := hW
  obtain ⟨p, q, hA0, hV, rfl, hfz, hnd⟩ := hW
  have hA : DataW.TrodAll enc Try.prog W 0 (fun _ => true) true Try.f4.params.toList args.toList ds p := hA0
  rw [Try.params4] at hA hval
  obtain ⟨v0, vs0, d0, ds0, p0, q0, hargs, rfl, rfl, h0, r0⟩ := trodAll_cons hA
  obtain ⟨v1, vs1, d1, ds1, p1, q1, rfl, rfl, rfl, h1, r1⟩ := trodAll_cons r0
  obtain ⟨rfl, rfl, rfl⟩ := trodAll_nil r1
  obtain rfl : args = #[v0, v1] := by cases args; simp_all
  obtain ⟨rfl, rfl⟩ := trodVars_none hV
  obtain ⟨a0, w0, z0⟩ := lift.open_row Try.underlying22 Try.underlying33 cells_uint64 (okWide_slice Try.underlying22 (hval 0 22 v0 rfl rfl)) h0
  obtain ⟨a1, w1, z1⟩ := open_acts (okWide_slice Try.underlying23 (hval 1 23 v1 rfl rfl)) h1
  clear hA0 hval0
  refine (walk v0 a0 v1 a1 W w0 z0 w1 z1).mono fun e W' ⟨he, hb⟩ => ?_
  subst he
  exact ⟨_, rfl, lift.post_law (tb := 4) laidOut (by rw [Try.params4]; exact fun t ht => (of_decide_eq_true (by kernel_rfl) : ∀ t ∈ [22, 23], Try.prog.readableRec t = true ∧ t < Try.prog.types.size) t ht) (by kernel_rfl) Try.underlying4 rfl hW' rfl hb⟩
theorem over : Rows.wmemLeadsRow.holds Try.pinned (OpenSpec.ofChange Rows.wmemLeadsSpec) :=
  OpenClaim.holds_of_wide 4 Try.f4 rfl rfl rfl rfl rfl rfl rfl ⟨rfl, rfl, rfl, rfl, rfl⟩ rfl rfl rfl rfl rfl (by kernel_rfl) Try.func4 (by kernel_rfl)
    (of_decide_eq_true (by kernel_rfl)) (by unfold Func.isWrapper; first | (rw [if_pos (by decide +kernel)]; kernel_rfl) | (rw [if_neg (by decide +kernel)]; exact ⟨rfl, rfl⟩))
    (fun os started H enc _ => lifted os started H enc)
theorem proved : Rows.WmemLeadsSaid :=
  over
end Go.Proofs.Ytkhhkdkbckdehaa.wmemLeads
