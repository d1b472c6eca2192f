/- Package hatstandref4: what each call does to the document's source. -/
import Derived.Test.YthncogpkhaheeaaSrcB
namespace Go.Proofs.Ythncogpkhaheeaa.src
open Go.ChangeShapes Go.WideShapes Go.ChangeAt Go.RowKit frame lift sep
set_option linter.unusedVariables false
/-- The document's source: its time, and its draws, wherever they begin. -/
def rsrc (b : Nat) (S : Sc) : Thing := ex fun v => star [blk b (.cells #[.int .u64 S.now, v] 30 (0, 0)), view .u64 v S.ds]
section
variable {F : Nat → Prop} {w : World} {b : Nat} {S : Sc} {L : List Thing} {W : World}
theorem rsrc_open (h : Hold F W (rsrc b S :: L) w) : ∃ v, Hold F W (blk b (.cells #[.int .u64 S.now, v] 30 (0, 0)) :: view .u64 v S.ds :: L) w := by
  obtain ⟨v, hv⟩ := h.unex
  exact ⟨v, hv.unstar⟩
theorem rsrc_close {v : Value} (h : Hold F W (blk b (.cells #[.int .u64 S.now, v] 30 (0, 0)) :: view .u64 v S.ds :: L) w) : Hold F W (rsrc b S :: L) w :=
  Hold.toex v (Hold.tostar (M := [blk b (.cells #[.int .u64 S.now, v] 30 (0, 0)), view .u64 v S.ds]) h)
end
theorem wm_oneCell (l : List Int) : ∀ u ∈ l.map (Value.int .u64), u.oneCell' = true := fun u hu => by
  obtain ⟨x, _, rfl⟩ := List.mem_map.1 hu
  rfl
theorem rdead_any (a d : Int) (ha : 0 ≤ a) (ha1 : a ≤ top) (hd : 0 ≤ d) (hd1 : d ≤ top) (w : World) :
    Calls Try.prog 22 #[.int .u64 a, .int .u64 d] w fun e w' => e = .returned (.int .u64 (dead a d)) ∧ w = w' := by
  unfold top at ha1 hd1
  by_cases h : a + d ≤ 18446744073709551615
  · have HD : Hid (dead a d = a + d) := by simp [Hid, dead, top, h]
    have hq : ¬ 18446744073709551615 - a < d := by omega
    go_enter Try.func22, Try.ntmps22
    go_wp2_with fail
    go_ret
    rw [HD.out]
    exact ⟨rfl, rfl⟩
  · have HD : Hid (dead a d = 18446744073709551615) := by simp [Hid, dead, top, h]
    have hq : 18446744073709551615 - a < d := by omega
    go_enter Try.func22, Try.ntmps22
    go_wp2_with fail
    go_ret
    rw [HD.out]
    exact ⟨rfl, rfl⟩
theorem rtick_any {F : Nat → Prop} {w : World} {b : Nat} {S : Sc} (h : Apart [rsrc b S] F w) (hS : ScOk S) (n : Int) (hn : 0 ≤ n) (hn1 : n ≤ top) :
    Calls Try.prog 14 #[.pointer (some ⟨b, 0, none⟩), .int .u64 n] w fun e w' => e = .returned (.tuple #[]) ∧ Hold F w [rsrc b (tickS S n)] w' := by
  obtain ⟨v, hv⟩ := rsrc_open (Hold.start h)
  have H := Lib.hid hv
  have c0 := hv.cell (List.mem_cons_self ..) 0
  have f0 := hv.froz (List.mem_cons_self ..) 0
  have hn0 := hS.n0; have hnt := hS.n1
  simp at c0
  clear hv h
  go_enter Try.func14, Try.ntmps14
  go_wp2_with fail
  refine (rdead_any S.now n hn0 hnt hn hn1 w).mono ?_
  rintro e w' ⟨rfl, rfl⟩
  go_wp2_with fail
  go_returns
  exact ⟨rfl, rsrc_close (S := tickS S n) (H.out.setBlk 0 _)⟩
set_option maxHeartbeats 4000000 in
theorem rdraw_any {F : Nat → Prop} {w : World} {b : Nat} {S : Sc} (h : Apart [rsrc b S] F w) (hS : ScOk S) (hl : S.ds.length ≤ 1000000) (n : Int) (hn1 : n ≤ 9223372036854775807) :
    Calls Try.prog 18 #[.pointer (some ⟨b, 0, none⟩), .int .i64 n] w fun e w' => e = .returned (.int .i64 (drawV S n)) ∧ Hold F w [rsrc b (drawS S n)] w' := by
  by_cases hn : n < 1
  · have HA : Hid (drawV S n = 0 ∧ drawS S n = S) := by simp [Hid, drawV, drawS, hn]
    have H := Lib.hid h
    go_enter Try.func18, Try.ntmps18
    go_wp2_with fail
    go_ret
    rw [HA.out.1, HA.out.2]
    exact ⟨rfl, Hold.start H.out⟩
  · obtain ⟨now, ds⟩ := S
    obtain ⟨v, hv⟩ := rsrc_open (Hold.start h)
    have c1 := hv.cell (List.mem_cons_self ..) 1
    have f1 := hv.froz (List.mem_cons_self ..) 1
    simp at c1
    cases ds with
    | nil =>
      have HA : Hid (drawV ⟨now, []⟩ n = 0 ∧ drawS ⟨now, []⟩ n = ⟨now, []⟩) := by simp [Hid, drawV, drawS, hn]
      have H := Lib.hid h
      obtain ⟨a, cap, rfl⟩ : ∃ a c, v = .slice a 0 c := by
        rcases hv.viewIs (List.mem_cons_of_mem _ (List.mem_cons_self ..)) with ⟨_, a, c, rfl⟩ | ⟨h0, _⟩
        · exact ⟨a, c, rfl⟩
        · simp at h0
      clear hv h
      go_enter Try.func18, Try.ntmps18
      go_wp2_with fail
      go_ret
      rw [HA.out.1, HA.out.2]
      exact ⟨rfl, Hold.start H.out⟩
    | cons d ds =>
      have HA : Hid (drawV ⟨now, d :: ds⟩ n = d % n ∧ drawS ⟨now, d :: ds⟩ n = ⟨now, ds⟩) := by simp [Hid, drawV, drawS, hn]
      obtain ⟨hd0, hd1⟩ := hS.ds d (List.mem_cons_self ..)
      obtain ⟨g2, o2, cap2, rfl, hc1, hc2, e1⟩ : ∃ g2 o2 cap2, v = .slice (some ⟨g2, o2, none⟩) (ds.length + 1) cap2 ∧ ds.length + 1 ≤ cap2 ∧ cap2 ≤ maxLen ∧ w.cell? ⟨g2, o2, none⟩ = some (.int .u64 d) := by
        rcases hv.viewIs (List.mem_cons_of_mem _ (List.mem_cons_self ..)) with ⟨h, _⟩ | ⟨h0, b, o, c, rfl, h1, h2, h3, h4⟩
        · cases h
        · exact ⟨b, o, c, rfl, h1, h2, by simpa [nth, List.getD] using h4 0 (by simp)⟩
      unfold maxLen at hc2
      simp only [List.length_cons] at hl
      have HT2 := Lib.hid hv.swap.viewTail.swap
      have hm0 : 0 ≤ d % n := Int.emod_nonneg _ (by omega)
      have hm1 : d % n ≤ d := mod_le hd0 (by omega)
      have hw2 : IntKind.u64.wrap n = n := by rw [IntKind.wrap_u64]; omega
      have hw3 : IntKind.i64.wrap (d % n) = d % n := IntWalk.i64_in _ (by omega)
      have hl2 : (1 : Int) ≤ (ds.length : Int) + 1 := by omega
      clear hv h hS
      by_cases hcap : cap2 = 1
      · obtain rfl : ds = [] := List.eq_nil_of_length_eq_zero (by omega)
        subst hcap
        rw [if_pos rfl] at HT2
        go_enter Try.func18, Try.ntmps18
        go_wp2_with fail
        go_ret
        rw [HA.out.1, HA.out.2]
        refine ⟨rfl, rsrc_close (S := ⟨now, []⟩) (v := .slice (some ⟨g2, o2, none⟩) 0 0) ?_⟩
        have h6 := HT2.out.setBlk 1 (.slice (some ⟨g2, o2, none⟩) 0 0)
        first
          | simpa using h6
          | simpa using h6.drew
      · rw [if_neg hcap] at HT2
        go_enter Try.func18, Try.ntmps18
        go_wp2_with fail
        go_ret
        rw [HA.out.1, HA.out.2]
        refine ⟨rfl, rsrc_close (S := ⟨now, ds⟩) (v := .slice (some ⟨g2, o2 + 1, none⟩) ds.length (cap2 - 1)) ?_⟩
        have h6 := HT2.out.setBlk 1 (.slice (some ⟨g2, o2 + 1, none⟩) ds.length (cap2 - 1))
        first
          | simpa using h6
          | simpa using h6.drew
end Go.Proofs.Ythncogpkhaheeaa.src
