/- WmemCuts: the accesses since some time are a part of all: no condition. -/
import Derived.Test.YtkhhkdkbckdehaaActs
namespace Go.Proofs.Ytkhhkdkbckdehaa.wmemCuts
open Go.ChangeShapes Go.WideShapes Go.ChangeAt Go.RowKit frame lift sep wm
set_option linter.unusedVariables false
def Rel (w : World) (m c : Nat) (S : St) (wr : World) : Prop := Here w [mem m S, ref c S] wr
/-- What 'was' is ahead of round k. -/
def wasAt (l : List Int) (acts : List ActD) (j k : Nat) : Int := if j < k then ((play l acts j).ns.length : Int) else 0
set_option maxRecDepth 100000 in
set_option maxHeartbeats 4000000 in
theorem walk (v0 : Value) (l : List Int) (v1 : Value) (acts : List ActD) (a2 : Int) (f2 : (Lit.int .i64 a2).wf = true) (w : World) (f0 : Ints w .u64 v0 l) (z0 : Fit .u64 l) (f1 : Acts w v1 acts) (z1 : ActsOk acts) :
    Calls Try.prog 7 #[v0, v1, .int .i64 a2] w fun e w' => e = .returned (.bool true) ∧ Below w.heap.size w w' := by
  obtain ⟨h2, h2'⟩ := bd_i64 f2
  clear f2 z0
  have HS := Lib.hid f0
  have HZ1 := Lib.hid z1
  have HS1 := Lib.hid f1
  obtain ⟨aa, capa, rfl⟩ := acts_form f1
  obtain ⟨a0, cap0, rfl⟩ := ints_form f0
  clear f1 z1 f0
  by_cases hbig : 1024 < l.length
  · go_enter Try.func7, Try.ntmps7
    go_wp2_with fail
    refine (shown_any _).mono ?_
    rintro e w1 ⟨rfl, hb⟩
    go_wp2_with fail
    refine (new_big (HS.out.below hb) hbig).mono ?_
    rintro e w2 ⟨rfl, rfl⟩
    go_wp2_with fail
    refine (ref_new_big (HS.out.below hb) hbig).mono ?_
    rintro e w2 ⟨rfl, rfl⟩
    go_wp2_with fail
    go_ret
    exact ⟨rfl, hb⟩
  have hn : l.length ≤ 1024 := by omega
  clear hbig
  by_cases hla : 200 < l.length ∨ 100 < acts.length
  · rcases hla with hla | hla
    all_goals
      go_enter Try.func7, Try.ntmps7
      go_wp2_with fail
      refine (shown_any _).mono ?_
      rintro e w1 ⟨rfl, hb⟩
      go_wp2_with fail
      refine (new_in (Here.of_below hb) (HS.out.below hb) hn).mono ?_
      rintro e w2 ⟨m, rfl, hh⟩
      have HH := Lib.hid hh; clear hh
      go_wp2_with fail
      refine (ref_new_in HH.out (HS.out.below HH.out.below) hn).mono ?_
      rintro e w3 ⟨c, rfl, hh3⟩
      have H3 := Lib.hid hh3; clear hh3
      go_wp2_with fail
      all_goals
        go_ret
        exact ⟨rfl, H3.out.below⟩
  have hl2 : l.length ≤ 200 := by omega
  have hla1 : acts.length ≤ 100 := by omega
  clear hla hn
  go_enter Try.func7, Try.ntmps7
  go_wp2_with fail
  refine (shown_any _).mono ?_
  rintro e w1 ⟨rfl, hb⟩
  go_wp2_with fail
  refine (new_in (Here.of_below hb) (HS.out.below hb) (by omega)).mono ?_
  rintro e w2 ⟨m, rfl, hh⟩
  have HH := Lib.hid hh; clear hh
  go_wp2_with fail
  refine (ref_new_in HH.out (HS.out.below HH.out.below) (by omega)).mono ?_
  rintro e w3 ⟨c, rfl, hh3⟩
  have H3 := Lib.hid hh3.swap; clear hh3 hb
  go_wp2_with fail
  obtain ⟨j0, hj0⟩ : ∃ j0 : Nat, pickI a2 (acts.length + 1) = j0 := ⟨(pickI a2 (acts.length + 1)).toNat, by have := pickI_bd a2 (acts.length + 1) (by omega); omega⟩
  have hj1 : j0 ≤ acts.length := by have := pickI_bd a2 (acts.length + 1) (by omega); omega
  have HJ := Lib.hid hj0; clear hj0
  refine (pick_any a2 (acts.length + 1) h2 h2' (by omega) (by omega) _).mono ?_
  rintro e w4 ⟨he, rfl⟩
  rw [HJ.out] at he
  subst he
  go_wp2_with fail
  go_loopw [13, 14] (fun x i wr => ∃ k : Nat, k ≤ acts.length ∧ x = .int .i64 (wasAt l acts j0 k) ∧ i = .int .i64 k ∧ Rel w m c (play l acts k) wr) (fun _ i _ => acts.length - (intOf i).toNat)
  case atStart => exact ⟨0, Nat.zero_le _, rfl, rfl, H3.out⟩
  case round =>
    obtain ⟨j, hj, rfl, rfl, hr⟩ := hrel
    have HR := Lib.hid hr; clear hr
    obtain ⟨hp1, hp2⟩ := play_len l acts j
    by_cases hlt : j < acts.length
    · obtain ⟨ba, offa, rfl, x0, x1, x2, x3, x4⟩ := acts_at HS1.out HR.out.below j hlt
      have hok := HZ1.out acts[j] (List.getElem_mem hlt)
      have HOK := Lib.hid hok
      have HP := Lib.hid (And.intro hp1 hp2)
      clear hok hp1 hp2
      have hi1 : (0 : Int) ≤ (j : Int) := by omega
      have hi2 : (j : Int) < (acts.length : Int) := by omega
      by_cases hjj : j = j0
      · subst hjj
        have hwas : wasAt l acts j (j + 1) = ((play l acts j).ns.length : Int) := by simp [wasAt]
        have HWA := Lib.hid hwas; clear hwas
        go_wp2_with fail
        refine (count_any HR.out (b := m) (S := play l acts j) (by simp)).mono ?_
        rintro e w4 ⟨rfl, rfl⟩
        go_wp2_with fail
        refine (does_any HR.out (by have := HP.out.1; omega) acts[j] HOK.out).mono ?_
        rintro e w4 ⟨rfl, h4⟩
        rw [play_succ l acts j hlt] at h4
        have H4 := Lib.hid h4; clear h4 x0 x1 x2 x3 x4
        go_wp2_with fail
        go_roundw
        case rel => exact ⟨j + 1, by omega, by rw [HWA.out], by go_num, H4.out⟩
        case measure => simp [intOf]; omega
      · have hwas : wasAt l acts j0 (j + 1) = wasAt l acts j0 j := by
          unfold wasAt
          by_cases h : j0 < j
          · rw [if_pos h, if_pos (by omega)]
          · rw [if_neg h, if_neg (by omega)]
        have HWA := Lib.hid hwas; clear hwas
        have q3 : (j == j0) = false := by rw [beq_eq_false_iff_ne]; exact hjj
        have q1 : ((j : Int) == (j0 : Int)) = false := by rw [beq_eq_false_iff_ne]; omega
        go_wp2_with fail
        refine (does_any HR.out (by have := HP.out.1; omega) acts[j] HOK.out).mono ?_
        rintro e w4 ⟨rfl, h4⟩
        rw [play_succ l acts j hlt] at h4
        have H4 := Lib.hid h4; clear h4 x0 x1 x2 x3 x4
        go_wp2_with fail
        go_roundw
        case rel => exact ⟨j + 1, by omega, by rw [HWA.out], by go_num, H4.out⟩
        case measure => simp [intOf]; omega
    · obtain rfl : j = acts.length := by omega
      obtain ⟨S, hS⟩ : ∃ S, S = play l acts acts.length := ⟨_, rfl⟩
      obtain ⟨K, hK⟩ : ∃ K, K = (play l acts j0).ns.length := ⟨_, rfl⟩
      have hKn : K ≤ S.ns.length := by rw [hK, hS]; exact play_mono l acts hj1
      obtain ⟨sm, hsm⟩ : ∃ sm, sm = S.ns.drop K := ⟨_, rfl⟩
      have hsml : (sm.length : Int) = (S.ns.length : Int) - (K : Int) := by rw [hsm, List.length_drop]; omega
      have hq : ((sm.length : Int) != (S.ns.length : Int) - (K : Int)) = false := by simpa using hsml
      rw [← hS] at HR hp1 hp2
      have hsl : S.ns.length ≤ 1000000 := by omega
      have HSM := Lib.hid hsm; clear hsm
      by_cases hjl : j0 = acts.length
      · subst hjl
        rw [← hS] at hK
        have HK := Lib.hid hK
        clear hS hK
        go_wp2_with fail
        refine (count_any HR.out (b := m) (S := S) (by simp)).mono ?_
        rintro e w4 ⟨he, rfl⟩
        rw [← HK.out] at he
        subst he
        go_wp2_with fail
        refine (since_any HR.out (b := m) (S := S) (by simp) hsl 0).mono ?_
        rintro e w5 ⟨v5, rfl, ha5, hb5⟩
        rw [show S.ns.drop (0 : Int).toNat = S.ns from by simp] at ha5
        have H5 := Lib.hid (HR.out.on hb5)
        obtain ⟨a5, c5, rfl, hn5, hm5, hx5⟩ := id ha5
        clear hx5 hb5
        unfold maxLen at hm5
        have HA5 := Lib.hid ha5; clear ha5
        go_wp2_with fail
        refine (since_any H5.out (b := m) (S := S) (by simp) hsl K).mono ?_
        rintro e w6 ⟨v6, rfl, ha6, hb6⟩
        rw [show S.ns.drop (K : Int).toNat = sm from HSM.out.symm] at ha6
        have H6 := Lib.hid (H5.out.on hb6)
        have HA56 := Lib.hid (HA5.out.below hb6)
        obtain ⟨a6, c6, rfl, hn6, hm6, hx6⟩ := id ha6
        clear hx6 hb6
        unfold maxLen at hm6
        have HA6 := Lib.hid ha6; clear ha6
        go_wp2_with fail
        refine (count_any H6.out (b := m) (S := S) (by simp)).mono ?_
        rintro e w7 ⟨rfl, rfl⟩
        go_wp2_with fail
        refine (since_any H6.out (b := m) (S := S) (by simp) hsl (-1)).mono ?_
        rintro e w7 ⟨v7, rfl, ha7, hb7⟩
        rw [show S.ns.drop (-1 : Int).toNat = S.ns from by simp] at ha7
        have H7 := Lib.hid (H6.out.on hb7)
        have HA57 := Lib.hid (HA56.out.below hb7)
        have HA67 := Lib.hid (HA6.out.below hb7)
        obtain ⟨a7, c7, rfl, hn7, hm7, hx7⟩ := id ha7
        clear hx7 hb7 ha7
        go_wp2_with fail
        refine (since_any H7.out (b := m) (S := S) (by simp) hsl (S.ns.length + 5)).mono ?_
        rintro e w8 ⟨v8, rfl, ha8, hb8⟩
        rw [show S.ns.drop ((S.ns.length : Int) + 5).toNat = [] from List.drop_eq_nil_of_le (by omega)] at ha8
        have H8 := Lib.hid (H7.out.on hb8)
        have HA58 := Lib.hid (HA57.out.below hb8)
        have HA68 := Lib.hid (HA67.out.below hb8)
        obtain ⟨a8, c8, rfl, hn8, hm8, hx8⟩ := id ha8
        clear hx8 hb8 ha8
        go_wp2_with fail
        go_loopw [17] (fun i wr => ∃ k : Nat, k ≤ sm.length ∧ i = .int .i64 k ∧ Below w8.heap.size w8 wr) (fun i _ => sm.length - (intOf i).toNat)
        case atStart => exact ⟨0, Nat.zero_le _, rfl, Below.refl _ _⟩
        case round =>
          obtain ⟨i, hi, rfl, hbr⟩ := hrel
          by_cases hlt : i < sm.length
          · have hlt2 : K + i < S.ns.length := by omega
            obtain ⟨g5, o5, rfl, hg5, hc5⟩ := (acc_open HA58.out).2 (by omega)
            obtain ⟨g6, o6, rfl, hg6, hc6⟩ := (acc_open HA68.out).2 (by omega)
            obtain ⟨x0, x1, x2, x3, x4, hx⟩ := enc5_form S.ns[K + i]
            have hx6 : enc5 sm[i] = [.int .u8 x0, .int .i64 x1, .int .u64 x2, .int .u64 x3, .bool x4] := by
              rw [← hx]
              congr 1
              have e := HSM.out
              subst e
              simp
            obtain ⟨p0, p1, p2, p3, p4⟩ := accs_at (v := undef) hc5 (K + i) hlt2 hx
            obtain ⟨q0, q1, q2, q3, q4⟩ := accs_at (v := undef) hc6 i hlt hx6
            have t5 : ∀ j, wr.cell? ⟨g5, j, none⟩ = w8.cell? ⟨g5, j, none⟩ := fun j => hbr.cell (p := ⟨g5, j, none⟩) hg5
            have t6 : ∀ j, wr.cell? ⟨g6, j, none⟩ = w8.cell? ⟨g6, j, none⟩ := fun j => hbr.cell (p := ⟨g6, j, none⟩) hg6
            rw [← t5] at p0 p1 p2 p3 p4
            rw [← t6] at q0 q1 q2 q3 q4
            clear hc5 hc6 hx hx6 t5 t6
            have hi1 : (0 : Int) ≤ (i : Int) := by omega
            have hi2 : (i : Int) < (sm.length : Int) := by omega
            have hi3 : (0 : Int) ≤ (K : Int) + (i : Int) := by omega
            have hi4 : (K : Int) + (i : Int) < (S.ns.length : Int) := by omega
            have hi5 : IntKind.i64.wrap ((K : Int) + (i : Int)) = (K : Int) + (i : Int) := IntWalk.i64_in _ (by omega)
            have hi6 : ((K : Int) + (i : Int)).toNat = K + i := by omega
            go_wp2_with fail
            go_quiet (fail)
            go_wp2_with fail
            clear hi5 hi6
            go_roundw
            case rel => exact ⟨i + 1, by omega, by go_num, hbr.trans ⟨rfl, rfl, rfl, Nat.le_refl _, fun _ _ => rfl⟩⟩
            case measure => simp [intOf]; omega
          · obtain rfl : i = sm.length := by omega
            go_wp2_with fail
            go_ret
            exact ⟨rfl, (H8.out.on hbr).below⟩
      · have hwas : wasAt l acts j0 acts.length = (K : Int) := by unfold wasAt; rw [if_pos (by omega), hK]
        have q3 : (j0 == acts.length) = false := by rw [beq_eq_false_iff_ne]; exact hjl
        have q1 : ((j0 : Int) == (acts.length : Int)) = false := by rw [beq_eq_false_iff_ne]; omega
        clear hS hK
        go_wp2_with fail
        refine (since_any HR.out (b := m) (S := S) (by simp) hsl 0).mono ?_
        rintro e w5 ⟨v5, rfl, ha5, hb5⟩
        rw [show S.ns.drop (0 : Int).toNat = S.ns from by simp] at ha5
        have H5 := Lib.hid (HR.out.on hb5)
        obtain ⟨a5, c5, rfl, hn5, hm5, hx5⟩ := id ha5
        clear hx5 hb5
        unfold maxLen at hm5
        have HA5 := Lib.hid ha5; clear ha5
        go_wp2_with fail
        refine (since_any H5.out (b := m) (S := S) (by simp) hsl K).mono ?_
        rintro e w6 ⟨v6, rfl, ha6, hb6⟩
        rw [show S.ns.drop (K : Int).toNat = sm from HSM.out.symm] at ha6
        have H6 := Lib.hid (H5.out.on hb6)
        have HA56 := Lib.hid (HA5.out.below hb6)
        obtain ⟨a6, c6, rfl, hn6, hm6, hx6⟩ := id ha6
        clear hx6 hb6
        unfold maxLen at hm6
        have HA6 := Lib.hid ha6; clear ha6
        go_wp2_with fail
        refine (count_any H6.out (b := m) (S := S) (by simp)).mono ?_
        rintro e w7 ⟨rfl, rfl⟩
        go_wp2_with fail
        refine (since_any H6.out (b := m) (S := S) (by simp) hsl (-1)).mono ?_
        rintro e w7 ⟨v7, rfl, ha7, hb7⟩
        rw [show S.ns.drop (-1 : Int).toNat = S.ns from by simp] at ha7
        have H7 := Lib.hid (H6.out.on hb7)
        have HA57 := Lib.hid (HA56.out.below hb7)
        have HA67 := Lib.hid (HA6.out.below hb7)
        obtain ⟨a7, c7, rfl, hn7, hm7, hx7⟩ := id ha7
        clear hx7 hb7 ha7
        go_wp2_with fail
        refine (since_any H7.out (b := m) (S := S) (by simp) hsl (S.ns.length + 5)).mono ?_
        rintro e w8 ⟨v8, rfl, ha8, hb8⟩
        rw [show S.ns.drop ((S.ns.length : Int) + 5).toNat = [] from List.drop_eq_nil_of_le (by omega)] at ha8
        have H8 := Lib.hid (H7.out.on hb8)
        have HA58 := Lib.hid (HA57.out.below hb8)
        have HA68 := Lib.hid (HA67.out.below hb8)
        obtain ⟨a8, c8, rfl, hn8, hm8, hx8⟩ := id ha8
        clear hx8 hb8 ha8
        go_wp2_with fail
        go_loopw [17] (fun i wr => ∃ k : Nat, k ≤ sm.length ∧ i = .int .i64 k ∧ Below w8.heap.size w8 wr) (fun i _ => sm.length - (intOf i).toNat)
        case atStart => exact ⟨0, Nat.zero_le _, rfl, Below.refl _ _⟩
        case round =>
          obtain ⟨i, hi, rfl, hbr⟩ := hrel
          by_cases hlt : i < sm.length
          · have hlt2 : K + i < S.ns.length := by omega
            obtain ⟨g5, o5, rfl, hg5, hc5⟩ := (acc_open HA58.out).2 (by omega)
            obtain ⟨g6, o6, rfl, hg6, hc6⟩ := (acc_open HA68.out).2 (by omega)
            obtain ⟨x0, x1, x2, x3, x4, hx⟩ := enc5_form S.ns[K + i]
            have hx6 : enc5 sm[i] = [.int .u8 x0, .int .i64 x1, .int .u64 x2, .int .u64 x3, .bool x4] := by
              rw [← hx]
              congr 1
              have e := HSM.out
              subst e
              simp
            obtain ⟨p0, p1, p2, p3, p4⟩ := accs_at (v := undef) hc5 (K + i) hlt2 hx
            obtain ⟨q0, q1, q2, q3, q4⟩ := accs_at (v := undef) hc6 i hlt hx6
            have t5 : ∀ j, wr.cell? ⟨g5, j, none⟩ = w8.cell? ⟨g5, j, none⟩ := fun j => hbr.cell (p := ⟨g5, j, none⟩) hg5
            have t6 : ∀ j, wr.cell? ⟨g6, j, none⟩ = w8.cell? ⟨g6, j, none⟩ := fun j => hbr.cell (p := ⟨g6, j, none⟩) hg6
            rw [← t5] at p0 p1 p2 p3 p4
            rw [← t6] at q0 q1 q2 q3 q4
            clear hc5 hc6 hx hx6 t5 t6
            have hi1 : (0 : Int) ≤ (i : Int) := by omega
            have hi2 : (i : Int) < (sm.length : Int) := by omega
            have hi3 : (0 : Int) ≤ (K : Int) + (i : Int) := by omega
            have hi4 : (K : Int) + (i : Int) < (S.ns.length : Int) := by omega
            have hi5 : IntKind.i64.wrap ((K : Int) + (i : Int)) = (K : Int) + (i : Int) := IntWalk.i64_in _ (by omega)
            have hi6 : ((K : Int) + (i : Int)).toNat = K + i := by omega
            go_wp2_with fail
            go_quiet (fail)
            go_wp2_with fail
            clear hi5 hi6
            go_roundw
            case rel => exact ⟨i + 1, by omega, by go_num, hbr.trans ⟨rfl, rfl, rfl, Nat.le_refl _, fun _ _ => rfl⟩⟩
            case measure => simp [intOf]; omega
          · obtain rfl : i = sm.length := by omega
            go_wp2_with fail
            go_ret
            exact ⟨rfl, (H8.out.on hbr).below⟩
theorem own : ownKnob Try.prog.godebug = none := by kernel_rfl
theorem laidOut : laidOutB Try.prog = true := by kernel_rfl
theorem cells_uint64 : Try.prog.cellsOf 33 = 1 := by kernel_rfl
set_option maxRecDepth 100000 in
theorem lifted (os : Os) (started : os.Started) (H : Type) (enc : TypeId × Value → H) :
    ReturnsInHanded {} Try.checked os 7 .any (Rows.wmemCutsSpec.pre6 enc Try.prog Try.f7 Rows.wmemCutsRow.domain false) (Rows.wmemCutsSpec.post enc Try.prog Try.f7 false true false false) := by
  refine returnsInHanded_of_change (C := Try.checked) own started (by kernel_rfl) Try.func7
    (ChangeSpec.witness6 (enc := enc) (C := Try.checked) false ⟨#[], #[.slice none 0 0, .slice none 0 0, .int .i64 0], []⟩ 8 (by kernel_rfl) (by kernel_rfl) (by kernel_rfl) (by kernel_rfl)) ?_
  intro W base args ds gs before hval0 hW hcnd _
  have hval : ∀ (j : Nat) t v, Try.f7.params[j]? = some t → args[j]? = some v → Value.okWide Try.prog W .any base t v := hval0
  have hW' := hW
  obtain ⟨p, q, hA0, hV, rfl, hfz, hnd⟩ := hW
  have hA : DataW.TrodAll enc Try.prog W 0 (fun _ => true) true Try.f7.params.toList args.toList ds p := hA0
  rw [Try.params7] at hA hval
  obtain ⟨v0, vs0, d0, ds0, p0, q0, hargs, rfl, rfl, h0, r0⟩ := trodAll_cons hA
  obtain ⟨v1, vs1, d1, ds1, p1, q1, rfl, rfl, rfl, h1, r1⟩ := trodAll_cons r0
  obtain ⟨v2, vs2, d2, ds2, p2, q2, rfl, rfl, rfl, h2, r2⟩ := trodAll_cons r1
  obtain ⟨rfl, rfl, rfl⟩ := trodAll_nil r2
  obtain rfl : args = #[v0, v1, v2] := by cases args; simp_all
  obtain ⟨rfl, rfl⟩ := trodVars_none hV
  obtain ⟨a0, w0, z0⟩ := lift.open_row Try.underlying22 Try.underlying33 cells_uint64 (okWide_slice Try.underlying22 (hval 0 22 v0 rfl rfl)) h0
  obtain ⟨a1, w1, z1⟩ := open_acts (okWide_slice Try.underlying23 (hval 1 23 v1 rfl rfl)) h1
  obtain ⟨a2, rfl, rfl, rfl, w2⟩ := open_int Try.underlying3 (hval 2 3 v2 rfl rfl) h2
  clear hA0 hval0
  refine (walk v0 a0 v1 a1 a2 w2 W w0 z0 w1 z1).mono fun e W' ⟨he, hb⟩ => ?_
  subst he
  exact ⟨_, rfl, lift.post_law (tb := 4) laidOut (by rw [Try.params7]; exact fun t ht => (of_decide_eq_true (by kernel_rfl) : ∀ t ∈ [22, 23, 3], Try.prog.readableRec t = true ∧ t < Try.prog.types.size) t ht) (by kernel_rfl) Try.underlying4 rfl hW' rfl hb⟩
theorem over : Rows.wmemCutsRow.holds Try.pinned (OpenSpec.ofChange Rows.wmemCutsSpec) :=
  OpenClaim.holds_of_wide 7 Try.f7 rfl rfl rfl rfl rfl rfl rfl ⟨rfl, rfl, rfl, rfl, rfl⟩ rfl rfl rfl rfl rfl (by kernel_rfl) Try.func7 (by kernel_rfl)
    (of_decide_eq_true (by kernel_rfl)) (by unfold Func.isWrapper; first | (rw [if_pos (by decide +kernel)]; kernel_rfl) | (rw [if_neg (by decide +kernel)]; exact ⟨rfl, rfl⟩))
    (fun os started H enc _ => lifted os started H enc)
theorem proved : Rows.WmemCutsSaid :=
  over
end Go.Proofs.Ytkhhkdkbckdehaa.wmemCuts
