/- PackRow: for any word and any list of indexes, of the words that come one behind the other no two are the same, and each is as far behind the first one as there are steps: no condition. -/
import Derived.Test.YtopfabbdcfonjaaPack
import Derived.Test.YtopfabbdcfonjaaOwn
namespace Go.Proofs.Ytopfabbdcfonjaa.packRow
open Go.ChangeShapes Go.WideShapes Go.ChangeAt Go.RowKit Go.BigFrame pk mid own
set_option linter.unusedVariables false
/-- The word behind k steps. -/
def st (w : Int) (l : List Int) : Nat → Int
  | 0 => w
  | k + 1 => nx (st w l k) (lift.nth l k)
theorem st_bd (w : Int) (l : List Int) (h0 : 0 ≤ w) (h1 : w ≤ 18446744073709551615) (hf : lift.Fit .u32 l) (k : Nat) : 0 ≤ st w l k ∧ st w l k ≤ 18446744073709551615 := by
  cases k with
  | zero => exact ⟨h0, h1⟩
  | succ k => have := lift.nth_u32 hf k; exact nx_bd _ _ this.1 this.2
theorem st_tag (w : Int) (l : List Int) (h0 : 0 ≤ w) (h1 : w ≤ 18446744073709551615) (hf : lift.Fit .u32 l) (k : Nat) : st w l k / 4294967296 = (w / 4294967296 + k) % 4294967296 := by
  induction k with
  | zero => simp [st]; omega
  | succ k ih =>
    have := lift.nth_u32 hf k
    unfold st nx
    rw [ih]
    omega
theorem st_ne (w : Int) (l : List Int) (h0 : 0 ≤ w) (h1 : w ≤ 18446744073709551615) (hf : lift.Fit .u32 l) (j k : Nat) (hj : j < k) (hk : k ≤ 1000) : (st w l j == st w l k) = false := by
  have a := st_tag w l h0 h1 hf j
  have b := st_tag w l h0 h1 hf k
  rw [beq_eq_false_iff_ne]
  intro e
  rw [e, b] at a
  omega
/-- The words up to the one behind k steps. -/
def row (w : Int) (l : List Int) (k : Nat) : List Int := (List.range (k + 1)).map (st w l)
theorem row_len (w : Int) (l : List Int) (k : Nat) : (row w l k).length = k + 1 := by simp [row]
theorem row_nth (w : Int) (l : List Int) (k j : Nat) (h : j ≤ k) : lift.nth (row w l k) j = st w l j := by
  simp [row, lift.nth, List.getD, show j < k + 1 by omega]
theorem row_more (w : Int) (l : List Int) (k : Nat) : row w l k ++ [st w l (k + 1)] = row w l (k + 1) := by simp [row, List.range_succ]
theorem index_st (w : Int) (l : List Int) (h0 : 0 ≤ w) (h1 : w ≤ 18446744073709551615) (hf : lift.Fit .u32 l) (k : Nat) (W : World) :
    Calls Try.prog 12 #[.int .u64 (st w l (k + 1))] W fun e w' => e = .returned (.int .u32 (lift.nth l k)) ∧ Below W.heap.size W w' :=
  have hb := st_bd w l h0 h1 hf (k + 1)
  (index_any _ hb.1 hb.2 W).mono fun e w' ⟨he, hw⟩ => ⟨by
    rw [he, show st w l (k + 1) % 4294967296 = lift.nth l k from by
      have := lift.nth_u32 hf k
      simp only [st, nx]
      omega], hw⟩
theorem ahead_one (w : Int) (l : List Int) (h0 : 0 ≤ w) (h1 : w ≤ 18446744073709551615) (hf : lift.Fit .u32 l) (k : Nat) (W : World) :
    Calls Try.prog 18 #[.int .u64 (st w l k), .int .u64 (st w l (k + 1))] W fun e w' => e = .returned (.int .u32 1) ∧ Below W.heap.size W w' :=
  have hb := st_bd w l h0 h1 hf k
  have hc := st_bd w l h0 h1 hf (k + 1)
  (ahead_any _ _ hb.1 hb.2 hc.1 hc.2 W).mono fun e w' ⟨he, hw⟩ => ⟨by rw [he, show ah (st w l k) (st w l (k + 1)) = 1 from by unfold ah; rw [st_tag w l h0 h1 hf, st_tag w l h0 h1 hf]; omega], hw⟩
theorem ahead_all (w : Int) (l : List Int) (h0 : 0 ≤ w) (h1 : w ≤ 18446744073709551615) (hf : lift.Fit .u32 l) (k : Nat) (hk : k ≤ 1000) (W : World) :
    Calls Try.prog 18 #[.int .u64 w, .int .u64 (st w l (k + 1))] W fun e w' => e = .returned (.int .u32 ((k : Int) + 1)) ∧ Below W.heap.size W w' :=
  have hc := st_bd w l h0 h1 hf (k + 1)
  (ahead_any _ _ h0 h1 hc.1 hc.2 W).mono fun e w' ⟨he, hw⟩ => ⟨by rw [he, show ah w (st w l (k + 1)) = (k : Int) + 1 from by unfold ah; rw [st_tag w l h0 h1 hf]; omega], hw⟩
theorem next_st (w : Int) (l : List Int) (h0 : 0 ≤ w) (h1 : w ≤ 18446744073709551615) (hf : lift.Fit .u32 l) (k : Nat) (W : World) :
    Calls Try.prog 16 #[.int .u64 (st w l k), .int .u32 (lift.nth l k)] W fun e w' => e = .returned (.int .u64 (st w l (k + 1))) ∧ Below W.heap.size W w' :=
  have hb := st_bd w l h0 h1 hf k
  have hn := lift.nth_u32 hf k
  (next_any _ _ hb.1 hb.2 hn.1 hn.2 W).mono fun e w' ⟨he, hw⟩ => ⟨by rw [he]; rfl, hw⟩
theorem info64 : (Try.prog.info? 23).map (fun i => (i.zero, i.size, i.bytes)) = some (some (.int .u64 0), 1, 8) := by kernel_rfl
set_option maxHeartbeats 2000000 in
theorem walk (a0 : Int) (v1 : Value) (a1 : List Int) (f0 : (Lit.int .u64 a0).wf = true) (w : World) (f1 : lift.Ints w .u32 v1 a1) (z1 : lift.Fit .u32 a1) :
    Calls Try.prog 5 #[.int .u64 a0, v1] w fun e w' => e = .returned (.bool true) ∧ Below w.heap.size w w' := by
  obtain ⟨h0, h0'⟩ := lift.bd_u64 f0
  clear f0
  rcases f1 with ⟨rfl, a, cap, rfl⟩ | ⟨hpos, b, off, cap, rfl, hcap, hmax, hb, hc⟩
  · go_enter Try.func5, Try.ntmps5
    go_wp2_with fail
    refine (shown_any _).mono ?_
    rintro e w10 ⟨rfl, hb⟩
    go_wp2_with fail
    go_rounds 1
    go_ret
    exact ⟨rfl, hb.alloc hb.size _⟩
  · unfold maxLen at hmax
    have HC := Lib.hid hc; have HZ := Lib.hid z1
    clear hc z1
    by_cases hbig : 200 < a1.length
    · go_enter Try.func5, Try.ntmps5
      go_wp2_with fail
      refine (shown_any _).mono ?_
      rintro e w11 ⟨rfl, hb⟩
      go_wp2_with fail
      go_ret
      exact ⟨rfl, hb⟩
    · go_enter Try.func5, Try.ntmps5
      go_wp2_with fail
      refine (shown_any _).mono ?_
      rintro e w0 ⟨rfl, hb0⟩
      go_wp2_with fail
      have hsz := hb0.size
      go_loopw [6, 7] (fun v i wr => ∃ k : Nat, k ≤ a1.length ∧ i = .int .i64 k ∧ Own wr w.heap.size 23 .u64 v (row a0 a1 k) ∧ Below w.heap.size w wr) (fun _ i _ => a1.length - (intOf i).toNat)
      case atStart => exact ⟨0, Nat.zero_le _, rfl, Own.one hsz, hb0.alloc hb0.size _⟩
      case round =>
        obtain ⟨k, hk, rfl, hown, hbr⟩ := hrel
        by_cases hlt : k < a1.length
        · obtain ⟨g, gcap, rfl, hg1, hg2, hg3, hg4⟩ := hown.at_ (by rw [row_len]; omega)
          rw [row_len] at hg3
          have hck := (hbr.cell (p := ⟨b, off + k, none⟩) (by assumption)).trans (HC.out k hlt)
          have hgk := hg4 k (by rw [row_len]; omega)
          rw [row_nth a0 a1 k k (Nat.le_refl _)] at hgk
          rw [row_len] at hown
          have HG := Lib.hid hg4; have HO := Lib.hid hown
          clear hg4 hown
          simp only [row_len]
          have hi1 : (0 : Int) ≤ (k : Int) := by omega
          have hi2 : (k : Int) < (a1.length : Int) := by omega
          go_wp2_with fail
          refine wp_region_mid (by kernel_rfl) (by kernel_rfl) ?_
          repeat (first | go_big_quiet_step ((go_at_call 16; exact quiet (next_st _ _ h0 h0' HZ.out k _))))
          refine wpQuiet_nil ?_
          intro w1 hw1
          replace hw1 := In.out hw1
          replace hck := (hw1.cell (p := ⟨b, off + k, none⟩) (Nat.lt_of_lt_of_le hb hbr.size)).trans hck
          replace hgk := (hw1.cell (p := ⟨g, k, none⟩) hg2).trans hgk
          replace hbr := hbr.trans (hw1.mono hbr.size)
          have HO1 := Lib.hid (HO.out.below hw1)
          have hg2' : g < w1.heap.size := Nat.lt_of_lt_of_le hg2 hw1.size
          have HG1 : Hid (∀ i, i < k + 1 → w1.cell? ⟨g, i, none⟩ = some (.int .u64 (st a0 a1 i))) := fun i hi => by
            rw [hw1.cell (p := ⟨g, i, none⟩) hg2, HG.out i (by rw [row_len]; omega), row_nth _ _ _ _ (by omega)]
          clear HG HO hw1
          go_wp2_with fail
          refine wp_region_mid (by kernel_rfl) (by kernel_rfl) ?_
          repeat (first | go_big_quiet_step ((first | (go_at_call 12; exact quiet (index_st _ _ h0 h0' HZ.out k _)) | (go_at_call_of 18 (Value.int .u64 a0); exact quiet (ahead_all _ _ h0 h0' HZ.out k (by omega) _)) | (go_at_call 18; exact quiet (ahead_one _ _ h0 h0' HZ.out k _)))))
          refine wpQuiet_nil ?_
          intro w2 hw2
          replace hw2 := In.out hw2
          replace hbr := hbr.trans (hw2.mono hbr.size)
          have HO2 := Lib.hid (HO1.out.below hw2)
          have hg3' : g < w2.heap.size := Nat.lt_of_lt_of_le hg2' hw2.size
          have HG2 : Hid (∀ i, i < k + 1 → w2.cell? ⟨g, i, none⟩ = some (.int .u64 (st a0 a1 i))) := fun i hi => by
            rw [hw2.cell (p := ⟨g, i, none⟩) hg2', HG1.out i hi]
          clear HG1 HO1 hw2 hck hgk
          go_wp2_with fail
          go_loop [9] (fun i => ∃ j : Nat, j ≤ k + 1 ∧ i = .int .i64 j) (fun i => k + 1 - (intOf i).toNat)
          case atStart => exact ⟨0, Nat.zero_le _, rfl⟩
          case round =>
            obtain ⟨j, hj, rfl⟩ := hrel
            by_cases hjl : j < k + 1
            · have hgj := HG2.out j hjl
              have hne := st_ne a0 a1 h0 h0' HZ.out j (k + 1) hjl (by omega)
              go_wp2_with fail
              go_round
              case rel => exact ⟨j + 1, by omega, by go_num⟩
              case measure => simp [intOf]; omega
            · obtain rfl : j = k + 1 := by omega
              go_wp2_with ((at_builtin; refine wpList_push _ rfl _ _ 31 rfl w.heap.size 23 .u64 (.int .u64 0) 8 Try.underlying31 info64 rfl _ _ (st a0 a1 (k + 1)) rfl (HO2.out.alloc _) ⟨w2.heap.size, 0, none⟩ 1 rfl ?c1 ?c2 (by decide) ?c4 ?_))
              case c2 => rw [row_len]; omega
              case c4 => have := hbr.size; simp; omega
              intro v' w3 hown3 hgrow3
              rw [row_more] at hown3
              have hbr3 := below_grown (hbr.alloc hbr.size _) hgrow3 (HO2.out.alloc _) (Nat.le_refl _)
              go_wp2_with fail
              go_roundw
              case rel => exact ⟨k + 1, by omega, by go_num, hown3, hbr3⟩
              case measure => simp [intOf]; omega
        · obtain rfl : k = a1.length := by omega
          go_wp2_with fail
          go_ret
          exact ⟨rfl, hbr⟩
theorem own : ownKnob Try.prog.godebug = none := by kernel_rfl
theorem laidOut : laidOutB Try.prog = true := by kernel_rfl
theorem cells_uint32 : Try.prog.cellsOf 22 = 1 := by kernel_rfl
set_option maxRecDepth 100000 in
theorem lifted (os : Os) (started : os.Started) (H : Type) (enc : TypeId × Value → H) :
    ReturnsInHanded {} Try.checked os 5 .any (Rows.packRowSpec.pre6 enc Try.prog Try.f5 Rows.packRowRow.domain false) (Rows.packRowSpec.post enc Try.prog Try.f5 false true false false) := by
  refine returnsInHanded_of_change (C := Try.checked) own started (by kernel_rfl) Try.func5
    (ChangeSpec.witness6 (enc := enc) (C := Try.checked) false ⟨#[], #[.int .u64 0, .slice none 0 0], []⟩ 8 (by kernel_rfl) (by kernel_rfl) (by kernel_rfl) (by kernel_rfl)) ?_
  intro W base args ds gs before hval0 hW hcnd _
  have hval : ∀ (j : Nat) t v, Try.f5.params[j]? = some t → args[j]? = some v → Value.okWide Try.prog W .any base t v := hval0
  have hW' := hW
  obtain ⟨p, q, hA0, hV, rfl, hfz, hnd⟩ := hW
  have hA : DataW.TrodAll enc Try.prog W 0 (fun _ => true) true Try.f5.params.toList args.toList ds p := hA0
  rw [Try.params5] at hA hval
  obtain ⟨v0, vs0, d0, ds0, p0, q0, hargs, rfl, rfl, h0, r0⟩ := trodAll_cons hA
  obtain ⟨v1, vs1, d1, ds1, p1, q1, rfl, rfl, rfl, h1, r1⟩ := trodAll_cons r0
  obtain ⟨rfl, rfl, rfl⟩ := trodAll_nil r1
  obtain rfl : args = #[v0, v1] := by cases args; simp_all
  obtain ⟨rfl, rfl⟩ := trodVars_none hV
  obtain ⟨a0, rfl, rfl, rfl, w0⟩ := open_int Try.underlying23 (hval 0 23 v0 rfl rfl) h0
  obtain ⟨a1, w1, z1⟩ := lift.open_row Try.underlying30 Try.underlying22 cells_uint32 (okWide_slice Try.underlying30 (hval 1 30 v1 rfl rfl)) h1
  clear hA0 hval0
  refine (walk a0 v1 a1 w0 W w1 z1).mono fun e W' ⟨he, hb⟩ => ?_
  subst he
  exact ⟨_, rfl, lift.post_law (tb := 4) laidOut (by rw [Try.params5]; exact fun t ht => (of_decide_eq_true (by kernel_rfl) : ∀ t ∈ [23, 30], Try.prog.readableRec t = true ∧ t < Try.prog.types.size) t ht) (by kernel_rfl) Try.underlying4 rfl hW' rfl hb⟩
theorem over : Rows.packRowRow.holds Try.pinned (OpenSpec.ofChange Rows.packRowSpec) :=
  OpenClaim.holds_of_wide 5 Try.f5 rfl rfl rfl rfl rfl rfl rfl ⟨rfl, rfl, rfl, rfl, rfl⟩ rfl rfl rfl rfl rfl (by kernel_rfl) Try.func5 (by kernel_rfl)
    (of_decide_eq_true (by kernel_rfl)) (by unfold Func.isWrapper; first | (rw [if_pos (by decide +kernel)]; kernel_rfl) | (rw [if_neg (by decide +kernel)]; exact ⟨rfl, rfl⟩))
    (fun os started H enc _ => lifted os started H enc)
theorem proved : Rows.PackRowSaid :=
  over
end Go.Proofs.Ytopfabbdcfonjaa.packRow
