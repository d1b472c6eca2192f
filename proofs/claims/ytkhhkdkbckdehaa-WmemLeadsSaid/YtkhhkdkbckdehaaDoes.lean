/- What the law's 'does' and 'pick' do, over this seat's program. -/
import Derived.Test.YtkhhkdkbckdehaaMemC
namespace Go.Proofs.Ytkhhkdkbckdehaa.wm
open Go.ChangeShapes Go.WideShapes Go.ChangeAt Go.RowKit frame lift sep
set_option linter.unusedVariables false

def pickI (c n : Int) : Int := (if c < 0 then -(c + 1) else c) % n
theorem pickI_bd (c n : Int) (hn : 0 < n) : 0 ≤ pickI c n ∧ pickI c n < n := ⟨Int.emod_nonneg _ (by omega), Int.emod_lt_of_pos _ hn⟩
theorem pick_any (c n : Int) (h0 : -9223372036854775808 ≤ c) (h1 : c ≤ 9223372036854775807) (hn : 0 < n) (hn' : n ≤ 9223372036854775807) (w : World) :
    Calls Try.prog 19 #[.int .i64 c, .int .i64 n] w fun e w' => e = .returned (.int .i64 (pickI c n)) ∧ w = w' := by
  by_cases h : c < 0
  · have H1 : Hid (pickI c n = -((c + 1).tmod n)) := by
      unfold Hid pickI
      rw [if_pos h, ← Int.tmod_eq_emod_of_nonneg (by omega), Int.neg_tmod]
    go_enter Try.func19, Try.ntmps19
    go_wp2_with fail
    go_ret
    rw [H1.out]
    exact ⟨rfl, rfl⟩
  · have H1 : Hid (pickI c n = c % n) := by simp [Hid, pickI, h]
    go_enter Try.func19, Try.ntmps19
    go_wp2_with fail
    go_ret
    rw [H1.out]
    exact ⟨rfl, rfl⟩

structure ActD where
  op : Int
  at_ : Int
  kind : Int
  old : Int
  new : Int
def actC (a : ActD) : Array Value := #[.int .i64 a.op, .int .i64 a.at_, .int .i64 a.kind, .int .u64 a.old, .int .u64 a.new]
def I64 (x : Int) : Prop := -9223372036854775808 ≤ x ∧ x ≤ 9223372036854775807
def ActOk (a : ActD) : Prop := I64 a.op ∧ I64 a.at_ ∧ I64 a.kind
def evenB (x : Int) : Bool := x.tmod 2 == 0
def oldOf (S : St) (a : ActD) : Int := bif evenB a.kind && inB S a.at_ then at_ S a.at_ else a.old
/-- The memory behind an act. -/
def doS (S : St) (a : ActD) : St :=
  if pickI a.op 5 < 2 then ldS S a.at_ else if pickI a.op 5 = 2 then stS S a.at_ a.new else swS S a.at_ (oldOf S a) a.new
theorem act_cells {w : World} {H : Nat} {t : TypeId} {x0 x1 x2 x3 x4 : Value} (h : w.heap[H]? = some (.cells #[x0, x1, x2, x3, x4] t (0, 0))) :
    w.cell? ⟨H, 0, none⟩ = some x0 ∧ w.cell? ⟨H, 1, none⟩ = some x1 ∧ w.cell? ⟨H, 2, none⟩ = some x2 ∧ w.cell? ⟨H, 3, none⟩ = some x3 ∧ w.cell? ⟨H, 4, none⟩ = some x4 :=
  ⟨cell_of_row w H 0 _ _ _ h, cell_of_row w H 1 _ _ _ h, cell_of_row w H 2 _ _ _ h, cell_of_row w H 3 _ _ _ h, cell_of_row w H 4 _ _ _ h⟩
section
variable {W w : World} {L : List Thing} {b c : Nat} {S : St}
theorem blk_third (h : Here W (mem b S :: ref c S :: L) w) (o : Obj) : Here W (mem b S :: ref c S :: blk w.heap.size o :: L) (w.alloc o) := h.newBlk o |>.swap |>.perm (.cons _ (.swap _ _ _))
theorem drop_third {A B C : Thing} (h : Here W (A :: B :: C :: L) w) : Here W (A :: B :: L) w := h.third.drop
theorem block3 {A B : Thing} {k : Nat} {o : Obj} (h : Here W (A :: B :: blk k o :: L) w) : w.heap[k]? = some o := h.block (b := k) (o := o) (by simp)
theorem does_load (h : Here W (mem b S :: ref c S :: L) w) (hf : S.ns.length ≤ 1000000) (a : ActD) (ha : ActOk a) (hp : pickI a.op 5 < 2) :
    Calls Try.prog 12 #[.pointer (some ⟨b, 0, none⟩), .pointer (some ⟨c, 0, none⟩), .agg (actC a)] w fun e w' => e = .returned (.bool true) ∧ Here W (mem b (ldS S a.at_) :: ref c (ldS S a.at_) :: L) w' := by
  obtain ⟨op, at_, kind, old, new⟩ := a
  obtain ⟨⟨ho1, ho2⟩, ⟨ha1, ha2⟩, _⟩ := ha
  unfold actC
  dsimp only at *
  have H0 := Lib.hid (blk_third h (Obj.cells #[.int .i64 op, .int .i64 at_, .int .i64 kind, .int .u64 old, .int .u64 new] 35))
  clear h
  go_enter Try.func12, Try.ntmps12
  go_wp2_with fail
  refine (pick_any _ _ ho1 ho2 (by decide) (by decide) _).mono ?_
  rintro e w' ⟨rfl, rfl⟩
  go_wp2_with fail
  refine (load_in H0.out hf at_).mono ?_
  rintro e w1 ⟨rfl, h1⟩
  obtain ⟨c0, c1, c2, c3, c4⟩ := act_cells (block3 h1)
  have H1 := Lib.hid h1; clear h1
  go_wp2_with fail
  refine (ref_load_in H1.out hf at_).mono ?_
  rintro e w2 ⟨rfl, h2⟩
  clear c0 c1 c2 c3 c4
  have H2 := Lib.hid h2; clear h2
  go_wp2_with fail
  go_ret
  exact ⟨rfl, drop_third H2.out⟩
theorem does_store (h : Here W (mem b S :: ref c S :: L) w) (hf : S.ns.length ≤ 1000000) (a : ActD) (ha : ActOk a) (hp : pickI a.op 5 = 2) :
    Calls Try.prog 12 #[.pointer (some ⟨b, 0, none⟩), .pointer (some ⟨c, 0, none⟩), .agg (actC a)] w fun e w' => e = .returned (.bool true) ∧ Here W (mem b (stS S a.at_ a.new) :: ref c (stS S a.at_ a.new) :: L) w' := by
  obtain ⟨op, at_, kind, old, new⟩ := a
  obtain ⟨⟨ho1, ho2⟩, ⟨ha1, ha2⟩, _⟩ := ha
  unfold actC
  dsimp only at *
  have hh := blk_third h (Obj.cells #[.int .i64 op, .int .i64 at_, .int .i64 kind, .int .u64 old, .int .u64 new] 35)
  obtain ⟨c0, c1, c2, c3, c4⟩ := act_cells (block3 hh)
  have H0 := Lib.hid hh
  clear h hh
  have HP := Lib.hid hp; clear hp
  go_enter Try.func12, Try.ntmps12
  go_wp2_with fail
  refine (pick_any _ _ ho1 ho2 (by decide) (by decide) _).mono ?_
  rintro e w' ⟨he, rfl⟩
  rw [HP.out] at he
  subst he
  go_wp2_with fail
  go_region_held3 (fun w' => w'.cell? ⟨w.heap.size, 1, none⟩ = some (.int .i64 at_) ∧ w'.cell? ⟨w.heap.size, 4, none⟩ = some (.int .u64 new)) (go_keep) (first
    | (go_at_call 22; (refine (store_in H0.out.drew hf at_ new).mono ?_); rintro e w1 ⟨rfl, h1⟩; (obtain ⟨c0, c1, c2, c3, c4⟩ := act_cells (block3 h1)); (have H1 := Lib.hid h1); clear h1)
    | (go_at_call 25; (refine (ref_store_in H1.out hf at_ new).mono ?_); rintro e w2 ⟨rfl, h2⟩; clear c0 c1 c2 c3 c4; (obtain ⟨c0, c1, c2, c3, c4⟩ := act_cells (block3 h2)); (have H2 := Lib.hid h2); clear h2))
  go_wp2_with fail
  go_ret
  exact ⟨rfl, drop_third H2.out⟩
theorem drewN_below {B : Nat} {w u : World} (h : Below B u w) (n : Nat) : Below B u (w.drewN n) := h.trans ⟨rfl, rfl, rfl, Nat.le_refl _, fun _ _ => rfl⟩
theorem does_swap_odd (h : Here W (mem b S :: ref c S :: L) w) (hf : S.ns.length ≤ 1000000) (a : ActD) (ha : ActOk a) (hp : 2 < pickI a.op 5) (hk : (a.kind.tmod 2 == 0) = false) :
    Calls Try.prog 12 #[.pointer (some ⟨b, 0, none⟩), .pointer (some ⟨c, 0, none⟩), .agg (actC a)] w fun e w' => e = .returned (.bool true) ∧ Here W (mem b (swS S a.at_ a.old a.new) :: ref c (swS S a.at_ a.old a.new) :: L) w' := by
  obtain ⟨op, at_, kind, old, new⟩ := a
  obtain ⟨⟨ho1, ho2⟩, ⟨ha1, ha2⟩, _⟩ := ha
  unfold actC
  dsimp only at *
  have hh := blk_third h (Obj.cells #[.int .i64 op, .int .i64 at_, .int .i64 kind, .int .u64 old, .int .u64 new] 35)
  obtain ⟨c0, c1, c2, c3, c4⟩ := act_cells (block3 hh)
  have hp2 : ¬ pickI op 5 = 2 := by omega
  have hp3 : (pickI op 5 == 2) = false := by simpa using hp2
  clear hp2
  have H0 := Lib.hid hh
  clear h hh
  go_enter Try.func12, Try.ntmps12
  go_wp2_with fail
  refine (pick_any _ _ ho1 ho2 (by decide) (by decide) _).mono ?_
  rintro e w' ⟨rfl, rfl⟩
  go_wp2_with fail
  go_quiet (fail)
  go_wp2_with fail
  refine (swap_in (H0.out.on (drewN_below (Below.refl _ _) _)) hf at_ _ new).mono ?_
  rintro e w1 ⟨rfl, h1⟩
  clear c0 c1 c2 c3 c4
  obtain ⟨c0, c1, c2, c3, c4⟩ := act_cells (block3 h1)
  have H1 := Lib.hid h1; clear h1
  go_wp2_with fail
  refine (ref_swap_in H1.out hf at_ _ new).mono ?_
  rintro e w2 ⟨rfl, h2⟩
  clear c0 c1 c2 c3 c4
  have H2 := Lib.hid h2; clear h2
  go_wp2_with fail
  go_ret
  exact ⟨rfl, drop_third H2.out⟩
theorem does_swap_neg (h : Here W (mem b S :: ref c S :: L) w) (hf : S.ns.length ≤ 1000000) (a : ActD) (ha : ActOk a) (hp : 2 < pickI a.op 5) (hk : (a.kind.tmod 2 == 0) = true) (h0 : a.at_ < 0) :
    Calls Try.prog 12 #[.pointer (some ⟨b, 0, none⟩), .pointer (some ⟨c, 0, none⟩), .agg (actC a)] w fun e w' => e = .returned (.bool true) ∧ Here W (mem b (swS S a.at_ a.old a.new) :: ref c (swS S a.at_ a.old a.new) :: L) w' := by
  obtain ⟨op, at_, kind, old, new⟩ := a
  obtain ⟨⟨ho1, ho2⟩, ⟨ha1, ha2⟩, _⟩ := ha
  unfold actC
  dsimp only at *
  have hh := blk_third h (Obj.cells #[.int .i64 op, .int .i64 at_, .int .i64 kind, .int .u64 old, .int .u64 new] 35)
  obtain ⟨c0, c1, c2, c3, c4⟩ := act_cells (block3 hh)
  have hp2 : ¬ pickI op 5 = 2 := by omega
  have hp3 : (pickI op 5 == 2) = false := by simpa using hp2
  clear hp2
  have h0' : decide (0 ≤ at_) = false := by simpa using h0
  have H0 := Lib.hid hh
  clear h hh
  go_enter Try.func12, Try.ntmps12
  go_wp2_with fail
  refine (pick_any _ _ ho1 ho2 (by decide) (by decide) _).mono ?_
  rintro e w' ⟨rfl, rfl⟩
  go_wp2_with fail
  go_quiet (fail)
  go_wp2_with fail
  refine (swap_in (H0.out.on (drewN_below (Below.refl _ _) _)) hf at_ _ new).mono ?_
  rintro e w1 ⟨rfl, h1⟩
  clear c0 c1 c2 c3 c4
  obtain ⟨c0, c1, c2, c3, c4⟩ := act_cells (block3 h1)
  have H1 := Lib.hid h1; clear h1
  go_wp2_with fail
  refine (ref_swap_in H1.out hf at_ _ new).mono ?_
  rintro e w2 ⟨rfl, h2⟩
  clear c0 c1 c2 c3 c4
  have H2 := Lib.hid h2; clear h2
  go_wp2_with fail
  go_ret
  exact ⟨rfl, drop_third H2.out⟩
theorem does_swap_far (h : Here W (mem b S :: ref c S :: L) w) (hf : S.ns.length ≤ 1000000) (a : ActD) (ha : ActOk a) (hp : 2 < pickI a.op 5) (hk : (a.kind.tmod 2 == 0) = true) (h0 : 0 ≤ a.at_) (h2 : S.ws.length ≤ a.at_) :
    Calls Try.prog 12 #[.pointer (some ⟨b, 0, none⟩), .pointer (some ⟨c, 0, none⟩), .agg (actC a)] w fun e w' => e = .returned (.bool true) ∧ Here W (mem b (swS S a.at_ a.old a.new) :: ref c (swS S a.at_ a.old a.new) :: L) w' := by
  obtain ⟨op, at_, kind, old, new⟩ := a
  obtain ⟨⟨ho1, ho2⟩, ⟨ha1, ha2⟩, _⟩ := ha
  unfold actC
  dsimp only at *
  have hh := blk_third h (Obj.cells #[.int .i64 op, .int .i64 at_, .int .i64 kind, .int .u64 old, .int .u64 new] 35)
  obtain ⟨c0, c1, c2, c3, c4⟩ := act_cells (block3 hh)
  have hp2 : ¬ pickI op 5 = 2 := by omega
  have hp3 : (pickI op 5 == 2) = false := by simpa using hp2
  clear hp2
  obtain ⟨F, v1, v2, hT⟩ := ref_here hh (b := c) (S := S) (by simp)
  obtain ⟨a9, cap9, hv9, hn9, hm9⟩ := hT.r1.slice
  subst hv9
  have hc0 := hT.c0
  rw [List.length_map] at hc0 hn9
  clear hT
  unfold maxLen at hm9
  have h2' : decide (at_ < (S.ws.length : Int)) = false := by simp; omega
  have H0 := Lib.hid hh
  clear h hh
  go_enter Try.func12, Try.ntmps12
  go_wp2_with fail
  refine (pick_any _ _ ho1 ho2 (by decide) (by decide) _).mono ?_
  rintro e w' ⟨rfl, rfl⟩
  go_wp2_with fail
  go_quiet (fail)
  go_wp2_with fail
  refine (swap_in (H0.out.on (drewN_below (Below.refl _ _) _)) hf at_ _ new).mono ?_
  rintro e w1 ⟨rfl, h1⟩
  clear c0 c1 c2 c3 c4
  obtain ⟨c0, c1, c2, c3, c4⟩ := act_cells (block3 h1)
  have H1 := Lib.hid h1; clear h1
  go_wp2_with fail
  refine (ref_swap_in H1.out hf at_ _ new).mono ?_
  rintro e w2 ⟨rfl, h2⟩
  clear c0 c1 c2 c3 c4
  have H2 := Lib.hid h2; clear h2
  go_wp2_with fail
  go_ret
  exact ⟨rfl, drop_third H2.out⟩
set_option maxHeartbeats 1000000 in
theorem does_swap_here (h : Here W (mem b S :: ref c S :: L) w) (hf : S.ns.length ≤ 1000000) (a : ActD) (ha : ActOk a) (hp : 2 < pickI a.op 5) (hk : (a.kind.tmod 2 == 0) = true) (hB : inB S a.at_ = true) :
    Calls Try.prog 12 #[.pointer (some ⟨b, 0, none⟩), .pointer (some ⟨c, 0, none⟩), .agg (actC a)] w fun e w' => e = .returned (.bool true) ∧ Here W (mem b (swS S a.at_ (at_ S a.at_) a.new) :: ref c (swS S a.at_ (at_ S a.at_) a.new) :: L) w' := by
  obtain ⟨op, at_, kind, old, new⟩ := a
  obtain ⟨⟨ho1, ho2⟩, ⟨ha1, ha2⟩, _⟩ := ha
  unfold actC
  dsimp only at *
  have hh := blk_third h (Obj.cells #[.int .i64 op, .int .i64 at_, .int .i64 kind, .int .u64 old, .int .u64 new] 35)
  obtain ⟨c0, c1, c2, c3, c4⟩ := act_cells (block3 hh)
  have hp2 : ¬ pickI op 5 = 2 := by omega
  have hp3 : (pickI op 5 == 2) = false := by simpa using hp2
  clear hp2
  obtain ⟨k, hk, hkl⟩ := inB_nat hB
  subst hk
  obtain ⟨F, v1, v2, hT⟩ := ref_here hh (b := c) (S := S) (by simp)
  obtain ⟨g, cap9, hv9, hg, hn9, hm9, hcell, hfr⟩ := words_at hT k hkl
  subst hv9
  have hc0 := hT.c0
  rw [show at_ S (k : Int) = nth S.ws k from rfl]
  clear hT hB
  unfold maxLen at hm9
  have hi1 : (0 : Int) ≤ (k : Int) := by omega
  have hi2 : (k : Int) < (S.ws.length : Int) := by omega
  have H0 := Lib.hid hh
  clear h hh
  go_enter Try.func12, Try.ntmps12
  go_wp2_with fail
  refine (pick_any _ _ ho1 ho2 (by decide) (by decide) _).mono ?_
  rintro e w' ⟨rfl, rfl⟩
  go_wp2_with fail
  go_quiet (fail)
  go_wp2_with fail
  go_quiet (fail)
  go_wp2_with fail
  refine (swap_in (H0.out.on (drewN_below (Below.refl _ _) _)) hf k (nth S.ws k) new).mono ?_
  rintro e w1 ⟨rfl, h1⟩
  clear c0 c1 c2 c3 c4
  obtain ⟨c0, c1, c2, c3, c4⟩ := act_cells (block3 h1)
  have H1 := Lib.hid h1; clear h1
  go_wp2_with fail
  refine (ref_swap_in H1.out hf k (nth S.ws k) new).mono ?_
  rintro e w2 ⟨rfl, h2⟩
  clear c0 c1 c2 c3 c4
  have H2 := Lib.hid h2; clear h2
  go_wp2_with fail
  go_ret
  exact ⟨rfl, drop_third H2.out⟩
theorem does_any (h : Here W (mem b S :: ref c S :: L) w) (hf : S.ns.length ≤ 1000000) (a : ActD) (ha : ActOk a) :
    Calls Try.prog 12 #[.pointer (some ⟨b, 0, none⟩), .pointer (some ⟨c, 0, none⟩), .agg (actC a)] w fun e w' => e = .returned (.bool true) ∧ Here W (mem b (doS S a) :: ref c (doS S a) :: L) w' := by
  by_cases h1 : pickI a.op 5 < 2
  · rw [show doS S a = ldS S a.at_ from by simp [doS, h1]]
    exact does_load h hf a ha h1
  · by_cases h2 : pickI a.op 5 = 2
    · rw [show doS S a = stS S a.at_ a.new from by simp [doS, h2]]
      exact does_store h hf a ha h2
    · rw [show doS S a = swS S a.at_ (oldOf S a) a.new from by simp [doS, h1, h2]]
      have h3 : 2 < pickI a.op 5 := by omega
      cases hk : (a.kind.tmod 2 == 0) with
      | false =>
        rw [show oldOf S a = a.old from by unfold oldOf evenB; rw [hk]; rfl]
        exact does_swap_odd h hf a ha h3 hk
      | true =>
        cases hB : inB S a.at_ with
        | true =>
          rw [show oldOf S a = at_ S a.at_ from by unfold oldOf evenB; rw [hk, hB]; rfl]
          exact does_swap_here h hf a ha h3 hk hB
        | false =>
          rw [show oldOf S a = a.old from by unfold oldOf evenB; rw [hk, hB]; rfl]
          by_cases h0 : a.at_ < 0
          · exact does_swap_neg h hf a ha h3 hk h0
          · exact does_swap_far h hf a ha h3 hk (by omega) (by simp [inB] at hB; omega)
end
end Go.Proofs.Ytkhhkdkbckdehaa.wm
