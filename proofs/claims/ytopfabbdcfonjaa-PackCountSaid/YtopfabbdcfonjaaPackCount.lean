/- PackCount: for any word and any list of indexes, a word that goes on so many times has a tag that much behind, and the last index: no condition. -/
import Derived.Test.YtopfabbdcfonjaaPack
import Derived.Test.YtopfabbdcfonjaaMid
namespace Go.Proofs.Ytopfabbdcfonjaa.packCount
open Go.ChangeShapes Go.WideShapes Go.ChangeAt Go.RowKit Go.BigFrame pk mid
set_option linter.unusedVariables false
/-- The word behind k steps. -/
def st (w : Int) (l : List Int) : Nat → Int
  | 0 => w
  | k + 1 => nx (st w l k) (lift.nth l k)
theorem st_bd (w : Int) (l : List Int) (h0 : 0 ≤ w) (h1 : w ≤ 18446744073709551615) (hf : lift.Fit .u32 l) (k : Nat) : 0 ≤ st w l k ∧ st w l k ≤ 18446744073709551615 := by
  cases k with
  | zero => exact ⟨h0, h1⟩
  | succ k => have := lift.nth_u32 hf k; exact nx_bd _ _ this.1 this.2
theorem st_tag (w : Int) (l : List Int) (h0 : 0 ≤ w) (h1 : w ≤ 18446744073709551615) (hf : lift.Fit .u32 l) (k : Nat) : st w l k / 4294967296 = (w / 4294967296 + k) % 4294967296 := by
  induction k with
  | zero => simp [st]; omega
  | succ k ih =>
    have := lift.nth_u32 hf k
    unfold st nx
    rw [ih]
    omega
theorem ahead_st (w : Int) (l : List Int) (h0 : 0 ≤ w) (h1 : w ≤ 18446744073709551615) (hf : lift.Fit .u32 l) (hl : l.length ≤ 500) (W : World) :
    Calls Try.prog 18 #[.int .u64 w, .int .u64 (st w l l.length)] W fun e w' => e = .returned (.int .u32 l.length) ∧ Below W.heap.size W w' :=
  have hb := st_bd w l h0 h1 hf l.length
  (ahead_any _ _ h0 h1 hb.1 hb.2 W).mono fun e w' ⟨he, hw⟩ => ⟨by rw [he, show ah w (st w l l.length) = l.length from by unfold ah; rw [st_tag w l h0 h1 hf]; omega], hw⟩
theorem tag_st (w : Int) (l : List Int) (h0 : 0 ≤ w) (h1 : w ≤ 18446744073709551615) (hf : lift.Fit .u32 l) (k : Nat) (W : World) :
    Calls Try.prog 14 #[.int .u64 (st w l k)] W fun e w' => e = .returned (.int .u32 ((w / 4294967296 + k) % 4294967296)) ∧ Below W.heap.size W w' :=
  have hb := st_bd w l h0 h1 hf k
  (tag_any _ hb.1 hb.2 W).mono fun e w' ⟨he, hw⟩ => ⟨by rw [he, st_tag w l h0 h1 hf], hw⟩
theorem index_st (w : Int) (l : List Int) (h0 : 0 ≤ w) (h1 : w ≤ 18446744073709551615) (hf : lift.Fit .u32 l) (hl : 0 < l.length) (W : World) :
    Calls Try.prog 12 #[.int .u64 (st w l l.length)] W fun e w' => e = .returned (.int .u32 (lift.nth l (l.length - 1))) ∧ Below W.heap.size W w' :=
  have hb := st_bd w l h0 h1 hf l.length
  (index_any _ hb.1 hb.2 W).mono fun e w' ⟨he, hw⟩ => ⟨by
    rw [he, show st w l l.length % 4294967296 = lift.nth l (l.length - 1) from by
      obtain ⟨n, hn⟩ : ∃ n, l.length = n + 1 := ⟨l.length - 1, by omega⟩
      rw [hn]
      have := lift.nth_u32 hf n
      simp only [st, nx, Nat.add_sub_cancel]
      omega], hw⟩
set_option maxHeartbeats 1000000 in
theorem walk (a0 : Int) (v1 : Value) (a1 : List Int) (f0 : (Lit.int .u64 a0).wf = true) (w : World) (f1 : lift.Ints w .u32 v1 a1) (z1 : lift.Fit .u32 a1) :
    Calls Try.prog 7 #[.int .u64 a0, v1] w fun e w' => e = .returned (.bool true) ∧ Below w.heap.size w w' := by
  obtain ⟨h0, h0'⟩ := lift.bd_u64 f0
  clear f0
  rcases f1 with ⟨rfl, a, cap, rfl⟩ | ⟨hpos, b, off, cap, rfl, hcap, hmax, hb, hc⟩
  · go_enter Try.func7, Try.ntmps7
    go_wp2_with fail
    refine (shown_any _).mono ?_
    rintro e w10 ⟨rfl, hb⟩
    go_wp2_with fail
    go_rounds 1
    go_ret
    exact ⟨rfl, hb⟩
  · unfold maxLen at hmax
    have HB := Lib.hid (st_bd a0 a1 h0 h0' z1); have HC := Lib.hid hc; have HZ := Lib.hid z1
    clear hc z1
    by_cases hbig : 500 < a1.length
    · go_enter Try.func7, Try.ntmps7
      go_wp2_with fail
      refine (shown_any _).mono ?_
      rintro e w11 ⟨rfl, hb⟩
      go_wp2_with fail
      go_ret
      exact ⟨rfl, hb⟩
    · go_enter Try.func7, Try.ntmps7
      go_wp2_with fail
      refine (shown_any _).mono ?_
      rintro e w12 ⟨rfl, hb⟩
      go_wp2_with fail
      go_loopw [6, 7] (fun x i wr => ∃ k : Nat, k ≤ a1.length ∧ x = .int .u64 (st a0 a1 k) ∧ i = .int .i64 k ∧ Below w.heap.size w wr) (fun _ i _ => a1.length - (intOf i).toNat)
      case atStart => exact ⟨0, Nat.zero_le _, rfl, rfl, hb⟩
      case round =>
        obtain ⟨k, hk, rfl, rfl, hbr⟩ := hrel
        have hbk := HB.out k
        have hgk := lift.nth_u32 HZ.out k
        by_cases hlt : k < a1.length
        · have hck := HC.out k hlt
          have hck2 := (hbr.cell (p := ⟨b, off + k, none⟩) (by assumption)).trans hck
          clear hck
          go_wp2_with fail
          refine (next_any _ _ hbk.1 hbk.2 hgk.1 hgk.2 _).mono ?_
          rintro e w11 ⟨rfl, hb2⟩; replace hbr := below_trans hbr hb2; clear hb2
          go_wp2_with fail
          go_roundw
          case rel => exact ⟨k + 1, by omega, rfl, by go_num, hbr⟩
          case measure => simp [intOf]; omega
        · obtain rfl : k = a1.length := by omega
          have hck2 := (hbr.cell (p := ⟨b, off + (a1.length - 1), none⟩) (by assumption)).trans (HC.out (a1.length - 1) (by omega))
          have hlo : (0 : Int) ≤ (a1.length : Int) - 1 := by omega
          have hhi : (a1.length : Int) - 1 < (a1.length : Int) := by omega
          have hto : ((a1.length : Int) - 1).toNat = a1.length - 1 := by omega
          go_wp2_with fail
          refine wp_region_mid (by kernel_rfl) (by kernel_rfl) ?_
          repeat (first | go_big_quiet_step ((first | (go_at_call 18; exact quiet (ahead_st _ _ h0 h0' HZ.out (by omega) _)) | (go_at_call_of 14 (Value.int .u64 a0); exact quiet (tag_any _ h0 h0' _)) | (go_at_call 14; exact quiet (tag_st _ _ h0 h0' HZ.out _ _)) | (go_at_call 12; exact quiet (index_st _ _ h0 h0' HZ.out (by omega) _)))))
          refine wpQuiet_nil ?_
          intro w12 hw12
          replace hbr := hbr.trans ((In.out hw12).mono hbr.size)
          clear hw12
          go_wp2_with fail
          go_ret
          exact ⟨rfl, hbr⟩
theorem own : ownKnob Try.prog.godebug = none := by kernel_rfl
theorem laidOut : laidOutB Try.prog = true := by kernel_rfl
theorem cells_uint32 : Try.prog.cellsOf 22 = 1 := by kernel_rfl
set_option maxRecDepth 100000 in
theorem lifted (os : Os) (started : os.Started) (H : Type) (enc : TypeId × Value → H) :
    ReturnsInHanded {} Try.checked os 7 .any (Rows.packCountSpec.pre6 enc Try.prog Try.f7 Rows.packCountRow.domain false) (Rows.packCountSpec.post enc Try.prog Try.f7 false true false false) := by
  refine returnsInHanded_of_change (C := Try.checked) own started (by kernel_rfl) Try.func7
    (ChangeSpec.witness6 (enc := enc) (C := Try.checked) false ⟨#[], #[.int .u64 0, .slice none 0 0], []⟩ 8 (by kernel_rfl) (by kernel_rfl) (by kernel_rfl) (by kernel_rfl)) ?_
  intro W base args ds gs before hval0 hW hcnd _
  have hval : ∀ (j : Nat) t v, Try.f7.params[j]? = some t → args[j]? = some v → Value.okWide Try.prog W .any base t v := hval0
  have hW' := hW
  obtain ⟨p, q, hA0, hV, rfl, hfz, hnd⟩ := hW
  have hA : DataW.TrodAll enc Try.prog W 0 (fun _ => true) true Try.f7.params.toList args.toList ds p := hA0
  rw [Try.params7] at hA hval
  obtain ⟨v0, vs0, d0, ds0, p0, q0, hargs, rfl, rfl, h0, r0⟩ := trodAll_cons hA
  obtain ⟨v1, vs1, d1, ds1, p1, q1, rfl, rfl, rfl, h1, r1⟩ := trodAll_cons r0
  obtain ⟨rfl, rfl, rfl⟩ := trodAll_nil r1
  obtain rfl : args = #[v0, v1] := by cases args; simp_all
  obtain ⟨rfl, rfl⟩ := trodVars_none hV
  obtain ⟨a0, rfl, rfl, rfl, w0⟩ := open_int Try.underlying23 (hval 0 23 v0 rfl rfl) h0
  obtain ⟨a1, w1, z1⟩ := lift.open_row Try.underlying30 Try.underlying22 cells_uint32 (okWide_slice Try.underlying30 (hval 1 30 v1 rfl rfl)) h1
  clear hA0 hval0
  refine (walk a0 v1 a1 w0 W w1 z1).mono fun e W' ⟨he, hb⟩ => ?_
  subst he
  exact ⟨_, rfl, lift.post_law (tb := 4) laidOut (by rw [Try.params7]; exact fun t ht => (of_decide_eq_true (by kernel_rfl) : ∀ t ∈ [23, 30], Try.prog.readableRec t = true ∧ t < Try.prog.types.size) t ht) (by kernel_rfl) Try.underlying4 rfl hW' rfl hb⟩
theorem over : Rows.packCountRow.holds Try.pinned (OpenSpec.ofChange Rows.packCountSpec) :=
  OpenClaim.holds_of_wide 7 Try.f7 rfl rfl rfl rfl rfl rfl rfl ⟨rfl, rfl, rfl, rfl, rfl⟩ rfl rfl rfl rfl rfl (by kernel_rfl) Try.func7 (by kernel_rfl)
    (of_decide_eq_true (by kernel_rfl)) (by unfold Func.isWrapper; first | (rw [if_pos (by decide +kernel)]; kernel_rfl) | (rw [if_neg (by decide +kernel)]; exact ⟨rfl, rfl⟩))
    (fun os started H enc _ => lifted os started H enc)
theorem proved : Rows.PackCountSaid :=
  over
end Go.Proofs.Ytopfabbdcfonjaa.packCount
