/- Package source: a draw is taken. -/
import Derived.Test.YthncogpkhaheeaaSrcM
namespace Go.Proofs.Ythncogpkhaheeaa.src
open Go.ChangeShapes Go.WideShapes Go.ChangeAt Go.RowKit frame lift sep
set_option linter.unusedVariables false
set_option maxHeartbeats 4000000 in
theorem draw_any {F : Nat → Prop} {w : World} {b : Nat} {S : Sc} (h : Apart [src b S] F w) (hS : ScOk S) (hl : S.ds.length ≤ 1000000) (n : Int) (hn1 : n ≤ 9223372036854775807) :
    Calls Try.prog 17 #[.pointer (some ⟨b, 0, none⟩), .int .i64 n] w fun e w' => e = .returned (.int .i64 (drawV S n)) ∧ Hold F w [src b (drawS S n)] w' := by
  by_cases hn : n < 1
  · have HA : Hid (drawV S n = 0 ∧ drawS S n = S) := by simp [Hid, drawV, drawS, hn]
    have H := Lib.hid h
    go_enter Try.func17, Try.ntmps17
    go_wp2_with fail
    go_ret
    rw [HA.out.1, HA.out.2]
    exact ⟨rfl, Hold.start H.out⟩
  · obtain ⟨all, k, hdr, hlen, hle, hraw⟩ := src_open (Hold.start h)
    obtain ⟨F2, hr1⟩ := hraw.get _ (List.mem_cons_self ..)
    have HR1 := Lib.hid (Apart.one hr1)
    have hl4 : all.length ≤ 4000000 := by omega
    obtain ⟨now, ds⟩ := S
    dsimp only at hdr hlen hle hraw hr1 HR1
    cases ds with
    | nil =>
      have HA : Hid (drawV ⟨now, []⟩ n = 0 ∧ drawS ⟨now, []⟩ n = ⟨now, []⟩) := by simp [Hid, drawV, drawS, hn]
      have H := Lib.hid (Hold.start h)
      have hk0 : k + 0 = all.length := hlen
      clear h hraw hr1 hS hdr hlen hle hl
      go_enter Try.func17, Try.ntmps17
      go_wp2_with fail
      refine (left_raw HR1.out hk0 hl4).mono ?_
      rintro e w' ⟨rfl, n1, rfl⟩
      go_wp2_with fail
      go_ret
      rw [HA.out.1, HA.out.2]
      exact ⟨rfl, H.out.drewN _⟩
    | cons d ds =>
      have HA : Hid (drawV ⟨now, d :: ds⟩ n = d % n ∧ drawS ⟨now, d :: ds⟩ n = ⟨now, ds⟩) := by simp [Hid, drawV, drawS, hn]
      obtain ⟨hd0, hd1⟩ := hS.ds d (List.mem_cons_self ..)
      obtain ⟨v, hv⟩ := raw_open hraw
      simp only [List.length_cons] at hl hlen hle
      have hk0 : k + (ds.length + 1) = all.length := hlen
      have hkl : k < all.length := by omega
      have hge : all[k]? = some d := by
        have := List.getElem?_drop (xs := all) (i := k) (j := 0)
        rw [hdr] at this
        simpa using this.symm
      have hd2 : all.drop (k + 1) = ds := by
        rw [← List.drop_drop, hdr]
        rfl
      have c1 := hv.cell (List.mem_cons_self ..) 1
      have c2 := hv.cell (List.mem_cons_self ..) 2
      have f2 := hv.froz (List.mem_cons_self ..) 2
      simp at c1 c2
      obtain ⟨F3, hr2⟩ := hv.get _ (List.mem_cons_of_mem _ (List.mem_cons_self ..))
      obtain ⟨g, cap, rfl, hg, hgl, hc1, hc2, hce, hfr⟩ := hr2.2.at_ (by omega)
      have e0 : w.cell? ⟨g, k, none⟩ = some (.int .u8 d) := by rw [hce k (by omega), List.getElem?_map, hge]; rfl
      have hki : (0 : Int) ≤ (k : Int) := by omega
      have hki2 : (k : Int) < (all.length : Int) := by omega
      have hkw : IntKind.i64.wrap ((k : Int) + 1) = ((k + 1 : Nat) : Int) := by rw [IntWalk.i64_in _ (by omega)]; push_cast; rfl
      have hwd : IntKind.i64.wrap d = d := IntWalk.i64_in _ (by omega)
      have hm0 : 0 ≤ d % n := Int.emod_nonneg _ (by omega)
      have hm1 : d % n ≤ d := mod_le hd0 (by omega)
      have htm : d.tmod n = d % n := Int.tmod_eq_emod_of_nonneg hd0
      have hw3 : IntKind.i64.wrap (d % n) = d % n := IntWalk.i64_in _ (by omega)
      have hl1 : ((ds.length + 1 : Nat) : Int) = (ds.length : Int) + 1 := by push_cast; rfl
      have hl3 : (((ds.length + 1 : Nat) : Int) == 0) = false := by simp; omega
      have HD2 := Lib.hid hd2
      have H := Lib.hid hv
      clear h hraw hr1 hr2 hv hS hdr hlen hle hl hce hfr hc1 hc2 hge hd2
      go_enter Try.func17, Try.ntmps17
      go_wp2_with fail
      refine (left_raw HR1.out hk0 hl4).mono ?_
      rintro e w' ⟨rfl, n1, rfl⟩
      go_wp2_with fail
      go_quiet (fail)
      go_wp2_with fail
      have h7 := (H.out.drewN (n1 + nq)).setBlk 2 (.int .i64 ((k : Int) + 1))
      have h8 : Hold F w ([raw b now all (k + 1)] ++ []) ((w.drewN (n1 + nq)).setCell ⟨b, 2, none⟩ (.int .i64 ((k : Int) + 1))) := raw_close (by simpa using h7)
      have H8 := Lib.hid h8
      clear h7 h8 H c1 c2 f2 e0 HR1
      refine (Hold.call (L' := [src b ⟨now, all.drop (k + 1)⟩]) H8.out (fun F hF => moveUp_any hF (by omega) (by omega) hl4)).mono ?_
      rintro e w' ⟨rfl, h9⟩
      rw [HD2.out] at h9
      have H9 := Lib.hid h9
      clear h9 H8
      go_wp2_with fail
      go_ret
      rw [HA.out.1, HA.out.2]
      exact ⟨rfl, H9.out⟩
end Go.Proofs.Ythncogpkhaheeaa.src
