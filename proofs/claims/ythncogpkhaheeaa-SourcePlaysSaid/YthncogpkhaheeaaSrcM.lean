/- Package source: the draws are moved up, and a draw is taken. -/
import Derived.Test.YthncogpkhaheeaaSrcA
namespace Go.Proofs.Ythncogpkhaheeaa.src
open Go.ChangeShapes Go.WideShapes Go.ChangeAt Go.RowKit frame lift sep
set_option linter.unusedVariables false
set_option maxHeartbeats 4000000 in
theorem moveUp_any {F : Nat → Prop} {w : World} {b k : Nat} {now : Int} {all : List Int} (h : Apart [raw b now all k] F w) (h0 : 0 < k) (hk : k ≤ all.length) (hl : all.length ≤ 4000000) :
    Calls Try.prog 23 #[.pointer (some ⟨b, 0, none⟩)] w fun e w' => e = .returned (.tuple #[]) ∧ Hold F w [src b ⟨now, all.drop k⟩] w' := by
  obtain ⟨m, hkm⟩ : ∃ m, k + m = all.length := ⟨all.length - k, by omega⟩
  have hm : (all.drop k).length = m := by rw [List.length_drop]; omega
  obtain ⟨v, hv⟩ := raw_open (Hold.start h)
  have c2 := hv.cell (List.mem_cons_self ..) 2
  have f1 := hv.froz (List.mem_cons_self ..) 1
  have f2 := hv.froz (List.mem_cons_self ..) 2
  simp at c2
  have HA := Lib.hid h
  by_cases hlt : k < m
  · have hlt' : (k : Int) < (m : Int) := by omega
    have H := Lib.hid (Hold.start h)
    clear hv h
    go_enter Try.func23, Try.ntmps23
    go_wp2_with fail
    go_quiet ((go_at_call 20; refine Calls.quiet_of (left_raw (HA.out.stays fun _ _ => rfl) hkm hl)))
    go_wp2_with fail
    go_returns
    exact ⟨rfl, src_close (all := all) (k := k) rfl (by show k ≤ (all.drop k).length; omega) (H.out.drewN _)⟩
  · have hlt' : ¬ (k : Int) < (m : Int) := by omega
    have hr := hv.rowIs (e := 5) (size := 1) (List.mem_cons_of_mem _ (List.mem_cons_self ..))
    obtain ⟨F2, hr2⟩ := hv.get _ (List.mem_cons_of_mem _ (List.mem_cons_self ..))
    obtain ⟨g, cap, rfl, hg, hgl, _, _, hce, hfr⟩ := hr2.2.at_ (by omega)
    obtain ⟨cur, hcur, hcl, hct, hn1c, hmc⟩ := row_cur hr
    have c1 := hv.cell (List.mem_cons_self ..) 1
    simp at c1
    obtain ⟨cs, hcs⟩ : ∃ cs, (all.drop k).map (Value.int .u8) = cs := ⟨_, rfl⟩
    have hcsl : cs.length = m := by rw [← hcs, List.length_map, hm]
    have HJ : Hid (∀ j u, cs[j]? = some u → w.cell? ((⟨g, k, none⟩ : Addr).add j) = some u) := fun j u hj => by
      rw [add_plain]
      have hjl : j < cs.length := (List.getElem?_eq_some_iff.1 hj).1
      rw [hce (k + j) (by omega)]
      rw [← hcs, List.map_drop, List.getElem?_drop] at hj
      exact hj
    have HO : Hid (∀ u ∈ cs, u.oneCell' = true) := fun u hu => by
      rw [← hcs] at hu
      obtain ⟨x, _, rfl⟩ := List.mem_map.1 hu
      rfl
    have hmin : cs.length = Nat.min (all.length - k) all.length := by rw [hcsl]; show m = min _ _; omega
    have hfit : 0 + cs.length ≤ cur.length := by omega
    obtain ⟨hsl1, hsl2⟩ := splice_head (cur := cur) (cs := cs) (by omega)
    have HSL := Lib.hid hsl2; have HCUR := Lib.hid hcur
    have H := Lib.hid hv
    have hmc2 := hmc
    unfold maxLen at hmc2
    have hwm : IntKind.i64.wrap (m : Int) = (m : Int) := IntWalk.i64_in _ (by omega)
    have hmcap : m ≤ cap := by omega
    have hmcap2 : (m : Int) ≤ (cap : Int) := by omega
    have hm00 : (0 : Int) ≤ (m : Int) := by omega
    clear hv h hr hr2 hcur hct hce hsl2 hfr
    obtain ⟨q, hq⟩ : ∃ q, (if cap = k then some (⟨g, 0, none⟩ : Addr) else some ⟨g, k, none⟩) = q := ⟨_, rfl⟩
    have HQ : Hid (0 < cs.length → q = some ⟨g, k, none⟩) := fun h => by rw [← hq, if_neg (by omega)]
    go_enter Try.func23, Try.ntmps23
    go_wp2_with fail
    go_quiet ((go_at_call 20; refine Calls.quiet_of (left_raw (HA.out.stays fun _ _ => rfl) hkm hl)))
    go_wp2_with fail
    have HCD : Hid ((w.drewN nq).drew.heap[g]? = some (.cells cur.toArray 5 (0, 0))) := HCUR.out
    have HPOS : Hid (0 < cs.length → some (⟨g, 0, none⟩ : Addr) = some ⟨g, 0, none⟩ ∧ ∃ ad, q = some ad ∧ ∀ j v, cs[j]? = some v → (w.drewN nq).drew.cell? (ad.add j) = some v) := fun h => ⟨rfl, _, HQ.out h, HJ.out⟩
    have HD : Hid (∀ w5, w5.heap[g]? = some (.cells (splice cur 0 cs).toArray 5 (0, 0)) → Chg (fun k => k = g) (w.drewN nq).drew w5 → Hold F w [blk b (.cells #[.int .u64 now, .slice (some ⟨g, 0, none⟩) all.length cap, .int .i64 k] 50 (0, 0)), row 5 1 (.slice (some ⟨g, 0, none⟩) m cap) m cs] w5) := fun w5 hg5 hc5 =>
      ((H.out.drewN nq).drew.swap.relaid hc5 rfl (row_of_cur (n := m) (cap := cap) (size := 1) (xs := cs) hg5 (by rw [hsl1]; exact hcl) (by omega) hmc (by omega) (by rw [Nat.mul_one, ← hcsl]; exact HSL.out)) (fun g' hg' => by simpa [Value.ownBlock] using hg'.symm)).swap
    go_region_law ((refine step_copy_in rfl (.tmp 17) (.tmp 26) 48 48 rfl 5 Try.underlying48 (by kernel_rfl) _ _ _ _ _ _ rfl rfl g 0 cur 5 HCD.out cs hmin HPOS.out hfit HO.out ?_); intro w5 hg5 hc5; have h5 := HD.out w5 hg5.out hc5.out; have c5 := h5.cell (List.mem_cons_self ..) 1; have f5 := h5.froz (List.mem_cons_self ..) 1; simp at c5; have H5 := Lib.hid h5; clear h5)
    all_goals
      have c6 := H5.out.cell (List.mem_cons_self ..) 2
      have f6 := H5.out.froz (List.mem_cons_self ..) 2
      simp at c6
      have H6 := Lib.hid (H5.out.setBlk 1 (.slice (some ⟨g, 0, none⟩) m cap))
      clear HD HCD HPOS HQ hq c1 c2 c5 f5 f1 f2 HJ HO HA H H5 hg5 hc5 HSL HCUR
      go_wp2_with fail
      go_returns
      refine ⟨rfl, src_close (all := all.drop k) (k := 0) (by simp) (Nat.zero_le _) (raw_close (v := .slice (some ⟨g, 0, none⟩) m cap) ?_)⟩
      have h7 := H6.out.setBlk 2 (.int .i64 0)
      rw [hm, hcs]
      simpa using h7
end Go.Proofs.Ythncogpkhaheeaa.src
