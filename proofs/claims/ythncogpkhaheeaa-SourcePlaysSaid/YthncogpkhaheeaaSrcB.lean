/- Chapter 4's calls with other things around, the example at the head of its statements, sums. -/
import Derived.Test.YthncogpkhaheeaaSrcD
import Derived.Deep.QuietTactic
import Derived.BigQuiet
namespace Go.Proofs.Ythncogpkhaheeaa.src
open Go.ChangeShapes Go.WideShapes Go.ChangeAt Go.RowKit frame lift sep
set_option linter.unusedVariables false
theorem wrap_over (a d : Int) (ha : 0 ≤ a) (ha1 : a ≤ 18446744073709551615) (hd : 0 ≤ d) (hd1 : d ≤ 18446744073709551615) (h : 18446744073709551615 < a + d) : IntKind.u64.wrap (a + d) = a + d - 18446744073709551616 := by
  have e : IntKind.u64.wrap (a + d) = (a + d) % 18446744073709551616 := rfl
  rw [e]
  omega
section
variable {F0 : Nat → Prop} {W w : World} {b : Nat} {S : Sc} {M : List Thing}
theorem tick_in (h : Hold F0 W (src b S :: M) w) (hS : ScOk S) (n : Int) (hn : 0 ≤ n) (hn1 : n ≤ top) :
    Calls Try.prog 13 #[.pointer (some ⟨b, 0, none⟩), .int .u64 n] w fun e w' => e = .returned (.tuple #[]) ∧ Hold F0 W (src b (tickS S n) :: M) w' :=
  Hold.call (L := [src b S]) (L' := [src b (tickS S n)]) h (fun F hF => tick_any hF hS n hn hn1)
theorem now_in (h : Hold F0 W M w) (hb : src b S ∈ M) : Calls Try.prog 19 #[.pointer (some ⟨b, 0, none⟩)] w fun e w' => e = .returned (.int .u64 S.now) ∧ w = w' := by
  obtain ⟨F, hF⟩ := h.get _ hb
  exact now_any (Apart.one hF)
theorem left_in (h : Hold F0 W M w) (hb : src b S ∈ M) (hl : S.ds.length ≤ 1000000) : Calls Try.prog 20 #[.pointer (some ⟨b, 0, none⟩)] w fun e w' => e = .returned (.int .i64 S.ds.length) ∧ ∃ n, w' = w.drewN n := by
  obtain ⟨F, hF⟩ := h.get _ hb
  exact left_any (Apart.one hF) hl
theorem now_q (h : Hold F0 W M w) (hb : src b S ∈ M) {v : Int} (hv : S.now = v) (n : Nat) : Calls Try.prog 19 #[.pointer (some ⟨b, 0, none⟩)] (w.drewN n) fun e w' => e = .returned (.int .u64 v) ∧ w' = w.drewN n :=
  (now_in (h.drewN n) hb).mono fun e w' ⟨h1, h2⟩ => ⟨by rw [h1, hv], h2.symm⟩
theorem dead_q (a d : Int) (ha : 0 ≤ a) (ha1 : a ≤ top) (hd : 0 ≤ d) (hd1 : d ≤ top) {v : Int} (hv : dead a d = v) (w : World) (n : Nat) :
    Calls Try.prog 21 #[.int .u64 a, .int .u64 d] (w.drewN n) fun e w' => e = .returned (.int .u64 v) ∧ w' = w.drewN n :=
  (dead_any a d ha ha1 hd hd1 _).mono fun e w' ⟨h1, h2⟩ => ⟨by rw [h1, hv], h2.symm⟩
theorem add_in (h : Hold F0 W (src b S :: M) w) (hl : S.ds.length ≤ 1000000) (d : Int) (hd : 0 ≤ d) (hd1 : d ≤ top) :
    Calls Try.prog 15 #[.pointer (some ⟨b, 0, none⟩), .int .u64 d] w fun e w' => e = .returned (.int .i64 (addE d)) ∧ Hold F0 W (src b (addS S d) :: M) w' :=
  Hold.call (L := [src b S]) (L' := [src b (addS S d)]) h (fun F hF => add_any hF hl d hd hd1)
theorem draw_in (h : Hold F0 W (src b S :: M) w) (hS : ScOk S) (hl : S.ds.length ≤ 1000000) (n : Int) (hn1 : n ≤ 9223372036854775807) :
    Calls Try.prog 17 #[.pointer (some ⟨b, 0, none⟩), .int .i64 n] w fun e w' => e = .returned (.int .i64 (drawV S n)) ∧ Hold F0 W (src b (drawS S n) :: M) w' :=
  Hold.call (L := [src b S]) (L' := [src b (drawS S n)]) h (fun F hF => draw_any hF hS hl n hn1)
theorem new_in (h : Hold F0 W M w) : Calls Try.prog 11 #[] w fun e w' => ∃ b, e = .returned (.pointer (some ⟨b, 0, none⟩)) ∧ Hold F0 W (src b ⟨0, []⟩ :: M) w' := by
  have h' : Hold F0 W ([] ++ M) w := h
  refine (Hold.calls (L := []) (Q := fun e L' => ∃ b, e = .returned (.pointer (some ⟨b, 0, none⟩)) ∧ L' = [src b ⟨0, []⟩]) h' (fun F hF => ?_)).mono ?_
  · have e : F = fun _ => False := funext fun k => propext ⟨fun hk => hF k hk, fun h => h.elim⟩
    rw [e]
    exact new_any w
  · rintro e w' ⟨L', ⟨b, he, rfl⟩, hh⟩
    exact ⟨b, he, hh⟩
set_option maxHeartbeats 1000000 in
theorem shown_in (h : Hold F0 W M w) : Calls Try.prog 10 #[] w fun e w' => e = .returned (.bool true) ∧ Hold F0 W M w' := by
  have H := Lib.hid h
  clear h
  go_enter Try.func10, Try.ntmps10
  go_wp2_with fail
  refine (new_in H.out).mono ?_
  rintro e w1 ⟨b, rfl, h1⟩
  have H1 := Lib.hid h1
  clear h1
  go_wp2_with fail
  refine (add_in H1.out (by simp) 7 (by decide) (by decide)).mono ?_
  rintro e w2 ⟨rfl, h2⟩
  have e2 : addS ⟨0, []⟩ 7 = ⟨0, [7]⟩ := by simp [addS]
  rw [e2] at h2
  have H2 := Lib.hid h2
  have v2 : addE 7 = 0 := by decide
  rw [v2]
  clear h2 e2 v2
  go_wp2_with fail
  have ok2 : ScOk ⟨0, [7]⟩ := ⟨by decide, by decide, fun d hd => by simp at hd; omega⟩
  refine (draw_in H2.out ok2 (by simp) 4 (by decide)).mono ?_
  rintro e w3 ⟨rfl, h3⟩
  have e3 : drawS ⟨0, [7]⟩ 4 = ⟨0, []⟩ := by simp [drawS]
  have v3 : drawV ⟨0, [7]⟩ 4 = 3 := by simp [drawV]
  rw [e3] at h3
  rw [v3]
  have H3 := Lib.hid h3
  clear h3 e3 v3
  go_wp2_with fail
  refine (draw_in H3.out ScOk.new (by simp) 4 (by decide)).mono ?_
  rintro e w4 ⟨rfl, h4⟩
  have v4 : drawV ⟨0, []⟩ 4 = 0 := by simp [drawV]
  rw [v4]
  have H4 := Lib.hid h4.drop
  clear h4 v4
  go_wp2_with fail
  refine (dead_any 1 2 (by decide) (by decide) (by decide) (by decide) w4).mono ?_
  rintro e w5 ⟨rfl, rfl⟩
  have v5 : dead 1 2 = 3 := by decide
  rw [v5]
  go_wp2_with fail
  go_ret
  exact ⟨rfl, H4.out⟩
end
theorem u64_form {w : World} {v : Value} {l : List Int} (h : Ints w .u64 v l) : ∃ a cap, v = .slice a l.length cap ∧ (0 < l.length → ∃ b off, a = some ⟨b, off, none⟩ ∧ b < w.heap.size ∧ ∀ i, i < l.length → w.cell? ⟨b, off + i, none⟩ = some (.int .u64 (nth l i))) := by
  rcases h with ⟨rfl, a, cap, rfl⟩ | ⟨h0, b, off, cap, rfl, _, _, hb, hc⟩
  · exact ⟨a, cap, rfl, fun h => by simp at h⟩
  · exact ⟨_, cap, rfl, fun _ => ⟨b, off, rfl, hb, hc⟩⟩
theorem i64_form {w : World} {v : Value} {l : List Int} (h : Ints w .i64 v l) : ∃ a cap, v = .slice a l.length cap ∧ (0 < l.length → ∃ b off, a = some ⟨b, off, none⟩ ∧ b < w.heap.size ∧ ∀ i, i < l.length → w.cell? ⟨b, off + i, none⟩ = some (.int .i64 (nth l i))) := by
  rcases h with ⟨rfl, a, cap, rfl⟩ | ⟨h0, b, off, cap, rfl, _, _, hb, hc⟩
  · exact ⟨a, cap, rfl, fun h => by simp at h⟩
  · exact ⟨_, cap, rfl, fun _ => ⟨b, off, rfl, hb, hc⟩⟩
theorem nth_u64 {l : List Int} (h : Fit .u64 l) (k : Nat) : 0 ≤ nth l k ∧ nth l k ≤ top := by
  by_cases hk : k < l.length
  · have : nth l k = l[k] := by simp [nth, List.getD, hk]
    rw [this]
    exact bd_u64 (h _ (List.getElem_mem hk))
  · have : nth l k = 0 := by simp [nth, List.getD, hk]
    rw [this]
    decide
theorem nth_i64 {l : List Int} (h : Fit .i64 l) (k : Nat) : -9223372036854775808 ≤ nth l k ∧ nth l k ≤ 9223372036854775807 := by
  by_cases hk : k < l.length
  · have : nth l k = l[k] := by simp [nth, List.getD, hk]
    rw [this]
    exact bd_i64 (h _ (List.getElem_mem hk))
  · have : nth l k = 0 := by simp [nth, List.getD, hk]
    rw [this]
    decide
theorem fit_nonneg {l : List Int} (h : Fit .u64 l) : ∀ x ∈ l, 0 ≤ x := fun x hx => (bd_u64 (h x hx)).1
def pickI (c n : Int) : Int := (if c < 0 then -(c + 1) else c) % n
theorem pickI_bd (c n : Int) (hn : 0 < n) : 0 ≤ pickI c n ∧ pickI c n < n := ⟨Int.emod_nonneg _ (by omega), Int.emod_lt_of_pos _ hn⟩
theorem pick_any (c n : Int) (h0 : -9223372036854775808 ≤ c) (h1 : c ≤ 9223372036854775807) (hn : 0 < n) (hn' : n ≤ 9223372036854775807) (w : World) :
    Calls Try.prog 12 #[.int .i64 c, .int .i64 n] w fun e w' => e = .returned (.int .i64 (pickI c n)) ∧ w = w' := by
  by_cases h : c < 0
  · have H1 : Hid (pickI c n = -((c + 1).tmod n)) := by
      unfold Hid pickI
      rw [if_pos h, ← Int.tmod_eq_emod_of_nonneg (by omega), Int.neg_tmod]
    go_enter Try.func12, Try.ntmps12
    go_wp2_with fail
    go_ret
    rw [H1.out]
    exact ⟨rfl, rfl⟩
  · have H1 : Hid (pickI c n = c % n) := by simp [Hid, pickI, h]
    go_enter Try.func12, Try.ntmps12
    go_wp2_with fail
    go_ret
    rw [H1.out]
    exact ⟨rfl, rfl⟩
theorem sum_nonneg : ∀ l : List Int, (∀ x ∈ l, 0 ≤ x) → 0 ≤ l.sum
  | [], _ => Int.le_refl _
  | x :: l, h => by
    have h1 := sum_nonneg l (fun y hy => h y (List.mem_cons_of_mem _ hy))
    have h2 := h x (List.mem_cons_self ..)
    rw [List.sum_cons]
    omega
theorem nth_is {l : List Int} {k : Nat} (h : k < l.length) : nth l k = l[k] := by simp [nth, List.getD, h]
theorem sum_take {l : List Int} {k : Nat} (h : k < l.length) : (l.take (k + 1)).sum = (l.take k).sum + nth l k := by
  rw [List.take_succ_eq_append_getElem h, List.sum_append, nth_is h]
  simp
theorem sum_drop {l : List Int} {k : Nat} (h : k < l.length) : (l.drop k).sum = nth l k + (l.drop (k + 1)).sum := by
  rw [List.drop_eq_getElem_cons h, List.sum_cons, nth_is h]
/-- A time that so much has gone by since the beginning. -/
theorem dead_add {s x : Int} (hs : 0 ≤ s) (hx : 0 ≤ x) : dead (dead 0 s) x = dead 0 (s + x) := dead_dead (Int.le_refl _) hs hx
end Go.Proofs.Ythncogpkhaheeaa.src
