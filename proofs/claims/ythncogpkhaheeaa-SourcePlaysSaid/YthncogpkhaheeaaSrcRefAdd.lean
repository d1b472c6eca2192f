/- Package hatstandref4's Add: two appends, one in the other, to a new row. -/
import Derived.Test.YthncogpkhaheeaaSrcRef
namespace Go.Proofs.Ythncogpkhaheeaa.src
open Go.ChangeShapes Go.WideShapes Go.ChangeAt Go.RowKit frame lift sep
set_option linter.unusedVariables false
set_option maxHeartbeats 4000000 in
theorem radd_any {F : Nat → Prop} {w : World} {b : Nat} {S : Sc} (h : Apart [rsrc b S] F w) (hl : S.ds.length ≤ 1000000) (d : Int) (hd : 0 ≤ d) (hd1 : d ≤ top) :
    Calls Try.prog 16 #[.pointer (some ⟨b, 0, none⟩), .int .u64 d] w fun e w' => e = .returned (.int .i64 (addE d)) ∧ Hold F w [rsrc b (addS S d)] w' := by
  unfold top at hd1
  by_cases h63 : d ≤ 63
  · have HA : Hid (addE d = 0 ∧ addS S d = ⟨S.now, S.ds ++ [d]⟩) := by simp [Hid, addE, addS, h63]
    obtain ⟨v, hv⟩ := rsrc_open (Hold.start h)
    have c1 := hv.cell (List.mem_cons_self ..) 1
    simp at c1
    have c1x : ∀ o, (w.alloc o).cell? ⟨b, 1, none⟩ = some v := fun o => (World.cell?_alloc_some w ⟨b, 1, none⟩ o (by rw [c1]; rfl)).trans c1
    have H0 := Lib.hid ((hv.newBlk (Obj.cells #[] 23)).blkRow (n := 0) (size := 1) (by simp) (by simp [maxLen]))
    have HR0 := Lib.hid (H0.out.rowIs (e := 23) (size := 1) (List.mem_cons_self ..))
    have hvw := H0.out.viewIs (k := .u64) (v := v) (l := S.ds) (by simp)
    have hd63 : ¬ 63 < d := by omega
    obtain ⟨i, hi, hz0, hz1, hz2⟩ := info_parts info64
    have J1 := Lib.hid hi; have J2 := Lib.hid hz0; have J3 := Lib.hid hz1; have J4 := Lib.hid hz2; clear hi hz0 hz1 hz2
    rcases hvw with ⟨hnil, a, cap, rfl⟩ | ⟨h0, g2, off, cap, rfl, hcc, hcm, hb2, hcells⟩
    · obtain ⟨now, ds⟩ := S
      obtain rfl : ds = [] := hnil
      clear hv h
      cases a
      all_goals
        go_enter Try.func16, Try.ntmps16
        go_wp2_with ((at_builtin; (refine wpList_append_lies _ rfl _ _ 28 rfl 0 23 i (.int .u64 0) 1 8 Try.underlying28 J1.out J2.out J3.out J4.out rfl (by decide) _ 0 _ rfl (HR0.out.alloc _) ⟨w.heap.size + 1, 0, none⟩ 1 1 [.int .u64 d] rfl rfl ?c1 ?c2 (by decide) ?c3 ?c4 (by simp) (w.heap.size + 1 + 1) (by simp) ?_)))
        case c2 => rfl
        case c3 => simp only [maxLen]; omega
        intro g3 cap3 w3 hown hgrow hat hlt3
        have h3 := (H0.out.alloc (Obj.cells #[.int .u64 d] 23)).appended (n' := ([d] : List Int).length) (xs' := ([d] : List Int).map (Value.int .u64)) (by simpa using hown) hgrow (by simpa using hat) hlt3
        have c1' := h3.cell (List.mem_cons_of_mem _ (List.mem_cons_self ..)) 1
        have f1' := h3.froz (List.mem_cons_of_mem _ (List.mem_cons_self ..)) 1
        have H3 := Lib.hid h3.rowView.swap
        simp at c1'
        clear hown hgrow hat h3
        go_wp2_with fail
        go_ret
        rw [HA.out.1, HA.out.2]
        refine ⟨rfl, rsrc_close (S := ⟨now, [] ++ [d]⟩) (v := .slice (some ⟨g3, 0, none⟩) 1 cap3) ?_⟩
        have h6 := ((H3.out.setBlk 1 (.slice (some ⟨g3, 0, none⟩) 1 cap3)).perm ((List.Perm.cons _ (.swap _ _ _)).trans (.swap _ _ _))).drop
        simpa using h6
    · have HCE := Lib.hid hcells
      clear hv h hcells
      unfold maxLen at hcm
      go_enter Try.func16, Try.ntmps16
      go_wp2_with ((at_builtin; go_loud (refine wpList_append_lies _ rfl _ _ 28 rfl 0 23 i (.int .u64 0) 1 8 Try.underlying28 J1.out J2.out J3.out J4.out rfl (by decide) _ 0 _ rfl HR0.out ⟨g2, off, none⟩ S.ds.length cap (S.ds.map (Value.int .u64)) rfl ?ec0 ?ec1 (wm_oneCell _) h0 ?ec3 ?ec4 (Nat.zero_le _) (w.heap.size + 1) (by simp) ?_)))
      case ec1 =>
        intro j u hj
        obtain ⟨hjl, hju⟩ := List.getElem?_eq_some_iff.1 hj
        rw [HCE.out j hjl, ← hju]
        simp [nth, List.getD, hjl]
      case ec3 => simp only [maxLen]; omega
      case ec4 => omega
      intro g cap1 w1 hown hgrow hat hlt
      have h1 := H0.out.appended (n' := S.ds.length) (xs' := S.ds.map (Value.int .u64)) (by simpa using hown) hgrow (by simpa using hat) hlt
      have H1 := Lib.hid h1
      have HR1 := Lib.hid (h1.rowIs (e := 23) (size := 1) (List.mem_cons_self ..))
      clear hown hgrow hat h1
      go_wp2_with ((at_builtin; go_loud (refine wpList_append_lies _ rfl _ _ 28 rfl 0 23 i (.int .u64 0) 1 8 Try.underlying28 J1.out J2.out J3.out J4.out rfl (by decide) _ S.ds.length _ rfl (HR1.out.alloc _) ⟨w1.heap.size, 0, none⟩ 1 1 [.int .u64 d] rfl rfl ?gc1 ?gc2 (by decide) ?gc3 ?gc4 (by simp) (w1.heap.size + 1) (by simp) ?_)))
      case gc1 =>
        intro j u hj
        match j, hj with
        | 0, hj =>
          simp at hj
          subst hj
          exact cell_of_row _ _ 0 _ _ _ (heap_alloc_new w1 _)
      case gc2 => intro u hu; simp at hu; subst hu; rfl
      case gc3 => simp only [maxLen]; omega
      case gc4 => omega
      intro g3 cap3 w3 hown hgrow hat hlt3
      have h3 := (H1.out.alloc (Obj.cells #[.int .u64 d] 23)).appended (n' := (S.ds ++ [d]).length) (xs' := (S.ds ++ [d]).map (Value.int .u64)) (by simpa using hown) hgrow (by simpa using hat) hlt3
      have c1' := h3.cell (List.mem_cons_of_mem _ (List.mem_cons_self ..)) 1
      have f1' := h3.froz (List.mem_cons_of_mem _ (List.mem_cons_self ..)) 1
      have H3 := Lib.hid h3.rowView.swap
      simp at c1'
      clear hown hgrow hat h3
      go_wp2_with fail
      go_ret
      rw [HA.out.1, HA.out.2]
      refine ⟨rfl, rsrc_close (S := ⟨S.now, S.ds ++ [d]⟩) (v := .slice (some ⟨g3, 0, none⟩) (S.ds.length + 1) cap3) ?_⟩
      have h6 := ((H3.out.setBlk 1 (.slice (some ⟨g3, 0, none⟩) (S.ds.length + 1) cap3)).perm ((List.Perm.cons _ (.swap _ _ _)).trans (.swap _ _ _))).drop
      simpa using h6
  · have HA : Hid (addE d = 1 ∧ addS S d = S) := by simp [Hid, addE, addS, h63]
    have H := Lib.hid h
    have hd63 : 63 < d := by omega
    go_enter Try.func16, Try.ntmps16
    go_wp2_with fail
    go_ret
    rw [HA.out.1, HA.out.2]
    exact ⟨rfl, Hold.start H.out⟩
end Go.Proofs.Ythncogpkhaheeaa.src
