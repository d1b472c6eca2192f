/- LifoWider: answers without None of a push that a stack may give, one with a greater bound may give, too: no condition. -/
import Derived.Test.YtjmbjlijkohkfaaLifB
namespace Go.Proofs.Ytjmbjlijkohkfaa.lifoWider
open Go.ChangeShapes Go.WideShapes Go.ChangeAt Go.RowKit frame lift sep own join lf
set_option linter.unusedVariables false
def keep (o : Ans) : Bool := !o.push || o.st != 2
theorem keep_ok {o : Ans} (h : keep o = true) : o.push = false ∨ o.st ≠ 2 := by
  unfold keep at h
  cases hp : o.push <;> simp_all
theorem infoL : (Try.prog.info? 30).map (fun i => (i.zero, i.size, i.bytes)) = some (some (.agg zO.toArray), 3, 24) := by kernel_rfl
theorem reads_one (w : World) (o : Ans) (e : TypeId) : Reads (w.alloc (.cells #[.bool o.push, .int .u64 o.v, .int .i64 o.st] e (0, 0))) (.slice (some ⟨w.heap.size, 0, none⟩) 1 1) 1 3 (encO o) := by
  refine ⟨rfl, fun u hu => ?_, _, 1, rfl, fun _ => ⟨_, rfl, fun j u hj => ?_⟩⟩
  · simp [encO] at hu
    rcases hu with rfl | rfl | rfl <;> rfl
  · rw [add_plain, Nat.zero_add]
    have := cell_of_row (w.alloc (.cells #[.bool o.push, .int .u64 o.v, .int .i64 o.st] e (0, 0))) w.heap.size j _ _ _ (heap_alloc_new w _)
    rw [this]
    simpa [encO] using hj
set_option maxRecDepth 100000 in
set_option maxHeartbeats 8000000 in
theorem walk (a0 : Int) (v1 : Value) (l : List Ans) (a2 : Int) (f0 : (Lit.int .i64 a0).wf = true) (f2 : (Lit.int .i64 a2).wf = true) (w : World) (f1 : Ops w v1 l) (z1 : OpsOk l) :
    Calls Try.prog 8 #[.int .i64 a0, v1, .int .i64 a2] w fun e w' => e = .returned (.bool true) ∧ Below w.heap.size w w' := by
  obtain ⟨b0, b1⟩ := bd_i64 f0
  obtain ⟨c0, c1⟩ := bd_i64 f2
  have HS := Lib.hid f1
  obtain ⟨ab, cb, rfl, _⟩ := f1
  clear f0 f2 z1
  by_cases hl : 200 < l.length
  · have hl1 : (200 : Int) < (l.length : Int) := by omega
    go_enter Try.func8, Try.ntmps8
    go_wp2_with fail
    refine (shown_any w).mono ?_
    rintro e w1 ⟨rfl, hb⟩
    go_wp2_with fail
    go_ret
    exact ⟨rfl, hb⟩
  have hl1 : ¬ (200 : Int) < (l.length : Int) := by omega
  obtain ⟨m, hm⟩ : ∃ m, pickI a0 10 = m := ⟨_, rfl⟩
  have hmb := pickI_bd a0 10 (by decide)
  rw [hm] at hmb
  obtain ⟨m0, m1⟩ := hmb
  have HM := Lib.hid hm
  obtain ⟨x, hx⟩ : ∃ x, pickI a2 10 = x := ⟨_, rfl⟩
  have hxb := pickI_bd a2 10 (by decide)
  rw [hx] at hxb
  obtain ⟨x0, x1⟩ := hxb
  have HX := Lib.hid hx
  have hw : IntKind.i64.wrap (m + x) = m + x := IntWalk.i64_in _ (by omega)
  clear hm hx
  go_enter Try.func8, Try.ntmps8
  go_wp2_with fail
  refine (shown_any w).mono ?_
  rintro e w1 ⟨rfl, hb⟩
  have HB1 := Lib.hid hb; clear hb
  go_wp2_with fail
  refine (pick_any a0 10 b0 b1 (by decide) (by decide) w1).mono ?_
  rintro e w2 ⟨rfl, rfl⟩
  rw [HM.out]
  go_wp2_with fail
  go_loopw [9, 10] (fun nv i wr => ∃ (k : Nat) (vv : Value), nv = vv ∧ i = .int .i64 k ∧ k ≤ l.length ∧ Hid (wr.ownsRow w.heap.size 30 3 vv ((l.take k).filter keep).length (((l.take k).filter keep).flatMap encO)) ∧ Hid (Below w.heap.size w wr)) (fun _ i _ => l.length - (intOf i).toNat)
  case atStart => exact ⟨0, _, rfl, rfl, Nat.zero_le _, World.ownsRow_nil w1 _ _ 3, HB1.out⟩
  case round =>
    obtain ⟨k, vv, hvv, rfl, hk, HO, HB⟩ := hrel
    have hv2 := hvv.symm
    clear hvv
    subst hv2
    by_cases hlt : k < l.length
    · obtain ⟨g, off, rfl, hgl, y0, y1, y2⟩ := HS.out.at_ HB.out k hlt
      have hgr : g < wr.heap.size := Nat.lt_of_lt_of_le hgl HB.out.size
      obtain ⟨o, hoo⟩ : ∃ o, l[k] = o := ⟨_, rfl⟩
      have HN : Hid ((l.take (k + 1)).filter keep = (l.take k).filter keep ++ (if keep o then [o] else [])) := by
        unfold Hid
        rw [List.take_succ_eq_append_getElem hlt, List.filter_append, hoo]
        congr 1
        cases hko : keep o <;> simp [hko]
      rw [hoo] at y0 y1 y2
      have hi1 : (0 : Int) ≤ (k : Int) := by omega
      have hi2 : (k : Int) < (l.length : Int) := by omega
      have hfl : ((l.take k).filter keep).length ≤ 1000 := by
        have h1 := List.length_filter_le keep (l.take k)
        rw [List.length_take] at h1
        omega
      clear hoo
      cases hko : keep o with
      | false =>
        have h2 : o.push = true ∧ (o.st != 2) = false := by
          unfold keep at hko
          cases hp : o.push <;> simp_all
        obtain ⟨h2a, h2b⟩ := h2
        rw [h2a] at y0
        have HN2 : Hid ((l.take (k + 1)).filter keep = (l.take k).filter keep) := by
          have := HN.out
          rw [hko] at this
          simpa [Hid] using this
        clear HN hko h2a
        go_wp2_with fail
        go_roundw
        case rel => exact ⟨k + 1, _, rfl, by go_num, by omega, by rw [HN2.out]; exact HO.out, HB.out⟩
        case measure => simp [intOf]; omega
      | true =>
        have HN2 : Hid ((l.take (k + 1)).filter keep = (l.take k).filter keep ++ [o]) := by
          have := HN.out
          rw [hko] at this
          simpa [Hid] using this
        have hro : (wr.alloc (.cells #[.bool o.push, .int .u64 o.v, .int .i64 o.st] 30 (0, 0))).ownsRow w.heap.size 30 3 vv ((l.take k).filter keep).length (((l.take k).filter keep).flatMap encO) := HO.out.alloc _
        have HRO := Lib.hid hro
        have HRD := Lib.hid (reads_one wr o 30)
        have HB2 : Hid (Below w.heap.size w (wr.alloc (.cells #[.bool o.push, .int .u64 o.v, .int .i64 o.st] 30 (0, 0)))) := HB.out.alloc HB.out.size _
        have HLT : Hid (∀ g, vv.ownBlock = some g → w.heap.size ≤ g) := fun g hg => (World.ownsRow.lt HO.out g hg).1
        have hcase : o.push = false ∨ (o.push = true ∧ (o.st != 2) = true) := by
          unfold keep at hko
          cases hp : o.push <;> simp_all
        clear HN hko hro
        rcases hcase with hp | ⟨hp, hst⟩
        all_goals
          rw [hp] at y0 HRO HRD HB2
          go_wp2_with (at_builtin; refine wpList_join _ rfl _ _ 23 rfl w.heap.size 30 (.agg zO.toArray) 3 24 Try.underlying23 infoL rfl (by decide) _ ((l.take k).filter keep).length _ rfl HRO.out _ 1 (encO o) rfl HRD.out ?c1 (by decide) ?c2 ?_)
          case c1 => omega
          case c2 => exact HB2.out.size
          intro v6 w6 hown6 hgrow6 _
          have HB6 := Lib.hid (HB2.out.grown hgrow6 HB2.out.size HLT.out)
          have HO6 : Hid (w6.ownsRow w.heap.size 30 3 v6 ((l.take (k + 1)).filter keep).length (((l.take (k + 1)).filter keep).flatMap encO)) := by
            rw [HN2.out, List.flatMap_append]
            unfold Hid
            simpa using hown6
          clear hown6 hgrow6
          go_wp2_with fail
          go_roundw
          case rel => exact ⟨k + 1, v6, rfl, by go_num, by omega, HO6.out, HB6.out⟩
          case measure => simp [intOf]; omega
    · obtain rfl : k = l.length := by omega
      have hro := HO.out
      rw [List.take_length] at hro
      obtain ⟨F, hF⟩ : ∃ F, l.filter keep = F := ⟨_, rfl⟩
      rw [hF] at hro
      have HOP := Lib.hid (ops_of_row hro)
      have hFl : F.length ≤ 1000 := by
        have h1 := List.length_filter_le keep l
        rw [hF] at h1
        omega
      have hFk : ∀ o ∈ F, o.push = false ∨ o.st ≠ 2 := fun o ho => by
        rw [← hF] at ho
        exact keep_ok (List.mem_filter.1 ho).2
      obtain ⟨hw1, hw2⟩ := run_wider (m := m) (m' := m + x) (by omega) F [] hFk
      have hl1 := run_len (most := m) F []
      have hl2 := run_len (most := m + x) F []
      have HR1 := Lib.hid (show runL [] m F = ((runL [] m F).1, (runL [] m F).2) from rfl)
      have HR2 := Lib.hid (show runL [] (m + x) F = ((runL [] (m + x) F).1, (runL [] (m + x) F).2) from rfl)
      obtain ⟨s1, hs1⟩ : ∃ s1, (runL [] m F).1 = s1 := ⟨_, rfl⟩
      obtain ⟨n1, hn1⟩ : ∃ n1, (runL [] m F).2 = n1 := ⟨_, rfl⟩
      obtain ⟨s2, hs2⟩ : ∃ s2, (runL [] (m + x) F).1 = s2 := ⟨_, rfl⟩
      obtain ⟨n2, hn2⟩ : ∃ n2, (runL [] (m + x) F).2 = n2 := ⟨_, rfl⟩
      rw [hs1] at hl1
      rw [hs2] at hl2
      rw [hn1, hn2] at hw1 hw2
      rw [hs1, hs2] at hw2
      rw [hs1, hn1] at HR1
      rw [hs2, hn2] at HR2
      have HW := Lib.hid hw2
      simp only [List.length_nil, Nat.zero_add] at hl1 hl2
      clear hro hF hs1 hn1 hs2 hn2 hw2 HO hFk
      go_wp2_with fail
      refine (run_any (s := []) (v := .slice none 0 0) (.inl ⟨rfl, none, 0, rfl⟩) HOP.out (by simp; omega) m).mono ?_
      rintro e w2 ⟨tv, rfl, htv, hb⟩
      rw [HR1.out] at htv ⊢
      have HB2 := Lib.hid (below_trans HB.out hb)
      have HOP2 := Lib.hid (HOP.out.below hb)
      have HT := Lib.hid htv
      clear hb htv
      dsimp only
      go_wp2_with fail
      refine (pick_any a2 10 c0 c1 (by decide) (by decide) w2).mono ?_
      rintro e w3 ⟨rfl, rfl⟩
      rw [HX.out]
      go_wp2_with fail
      refine (run_any (s := []) (v := .slice none 0 0) (.inl ⟨rfl, none, 0, rfl⟩) HOP2.out (by simp; omega) (m + x)).mono ?_
      rintro e w3 ⟨tv3, rfl, htv, hb⟩
      rw [HR2.out] at htv ⊢
      have HB3 := Lib.hid (below_trans HB2.out hb)
      have HT2 := Lib.hid (HT.out.below hb)
      have HT3 := Lib.hid htv
      clear hb htv
      dsimp only
      have hle : (n1 : Int) ≤ (n2 : Int) := by omega
      by_cases hlt2 : n1 < n2
      · have hlt3 : (n1 : Int) < (n2 : Int) := by omega
        go_wp2_with fail
        go_ret
        exact ⟨rfl, HB3.out⟩
      · have hlt3 : ¬ (n1 : Int) < (n2 : Int) := by omega
        have hse := HW.out (by omega)
        subst hse
        go_wp2_with fail
        refine (same_any HT2.out HT3.out (by omega) (by omega)).mono ?_
        rintro e w4 ⟨rfl, hb⟩
        rw [decide_eq_true rfl]
        have HB4 := Lib.hid (below_trans HB3.out hb)
        clear hb
        go_wp2_with fail
        go_ret
        exact ⟨rfl, HB4.out⟩
theorem own : ownKnob Try.prog.godebug = none := by kernel_rfl
theorem laidOut : laidOutB Try.prog = true := by kernel_rfl
set_option maxRecDepth 100000 in
theorem lifted (os : Os) (started : os.Started) (H : Type) (enc : TypeId × Value → H) :
    ReturnsInHanded {} Try.checked os 8 .any (Rows.lifoWiderSpec.pre6 enc Try.prog Try.f8 Rows.lifoWiderRow.domain false) (Rows.lifoWiderSpec.post enc Try.prog Try.f8 false true false false) := by
  refine returnsInHanded_of_change (C := Try.checked) own started (by kernel_rfl) Try.func8
    (ChangeSpec.witness6 (enc := enc) (C := Try.checked) false ⟨#[], #[.int .i64 0, .slice none 0 0, .int .i64 0], []⟩ 8 (by kernel_rfl) (by kernel_rfl) (by kernel_rfl) (by kernel_rfl)) ?_
  intro W base args ds gs before hval0 hW hcnd _
  have hval : ∀ (j : Nat) t v, Try.f8.params[j]? = some t → args[j]? = some v → Value.okWide Try.prog W .any base t v := hval0
  have hW' := hW
  obtain ⟨p, q, hA0, hV, rfl, hfz, hnd⟩ := hW
  have hA : DataW.TrodAll enc Try.prog W 0 (fun _ => true) true Try.f8.params.toList args.toList ds p := hA0
  rw [Try.params8] at hA hval
  obtain ⟨v0, vs0, d0, ds0, p0, q0, hargs, rfl, rfl, h0, r0⟩ := trodAll_cons hA
  obtain ⟨v1, vs1, d1, ds1, p1, q1, rfl, rfl, rfl, h1, r1⟩ := trodAll_cons r0
  obtain ⟨v2, vs2, d2, ds2, p2, q2, rfl, rfl, rfl, h2, r2⟩ := trodAll_cons r1
  obtain ⟨rfl, rfl, rfl⟩ := trodAll_nil r2
  obtain rfl : args = #[v0, v1, v2] := by cases args; simp_all
  obtain ⟨rfl, rfl⟩ := trodVars_none hV
  obtain ⟨a0, rfl, rfl, rfl, w0⟩ := open_int Try.underlying3 (hval 0 3 v0 rfl rfl) h0
  obtain ⟨a1, w1, z1⟩ := lf.open_ops (okWide_slice Try.underlying23 (hval 1 23 v1 rfl rfl)) h1
  obtain ⟨a2, rfl, rfl, rfl, w2⟩ := open_int Try.underlying3 (hval 2 3 v2 rfl rfl) h2
  clear hA0 hval0
  refine (walk a0 v1 a1 a2 w0 w2 W w1 z1).mono fun e W' ⟨he, hb⟩ => ?_
  subst he
  exact ⟨_, rfl, lift.post_law (tb := 4) laidOut (by rw [Try.params8]; exact fun t ht => (of_decide_eq_true (by kernel_rfl) : ∀ t ∈ [3, 23, 3], Try.prog.readableRec t = true ∧ t < Try.prog.types.size) t ht) (by kernel_rfl) Try.underlying4 rfl hW' rfl hb⟩
theorem over : Rows.lifoWiderRow.holds Try.pinned (OpenSpec.ofChange Rows.lifoWiderSpec) :=
  OpenClaim.holds_of_wide 8 Try.f8 rfl rfl rfl rfl rfl rfl rfl ⟨rfl, rfl, rfl, rfl, rfl⟩ rfl rfl rfl rfl rfl (by kernel_rfl) Try.func8 (by kernel_rfl)
    (of_decide_eq_true (by kernel_rfl)) (by unfold Func.isWrapper; first | (rw [if_pos (by decide +kernel)]; kernel_rfl) | (rw [if_neg (by decide +kernel)]; exact ⟨rfl, rfl⟩))
    (fun os started H enc _ => lifted os started H enc)
theorem proved : Rows.LifoWiderSaid :=
  over
end Go.Proofs.Ytjmbjlijkohkfaa.lifoWider
