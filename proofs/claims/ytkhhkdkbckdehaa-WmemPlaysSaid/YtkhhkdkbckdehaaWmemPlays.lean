/- WmemPlays: what each act tells, which words there are behind it, and what was noted, is as the document's own answer says: no condition. -/
import Derived.Test.YtkhhkdkbckdehaaActs
namespace Go.Proofs.Ytkhhkdkbckdehaa.wmemPlays
open Go.ChangeShapes Go.WideShapes Go.ChangeAt Go.RowKit frame lift sep wm
set_option linter.unusedVariables false
def Rel (w : World) (m c : Nat) (S : St) (wr : World) : Prop := Here w [mem m S, ref c S] wr
set_option maxRecDepth 100000 in
set_option maxHeartbeats 2000000 in
theorem walk (v0 : Value) (l : List Int) (v1 : Value) (acts : List ActD) (a2 : Int) (f2 : (Lit.int .i64 a2).wf = true) (w : World) (f0 : Ints w .u64 v0 l) (z0 : Fit .u64 l) (f1 : Acts w v1 acts) (z1 : ActsOk acts) :
    Calls Try.prog 3 #[v0, v1, .int .i64 a2] w fun e w' => e = .returned (.bool true) ∧ Below w.heap.size w w' := by
  obtain ⟨h2, h2'⟩ := bd_i64 f2
  clear f2 z0
  have HS := Lib.hid f0
  have HZ1 := Lib.hid z1
  have HS1 := Lib.hid f1
  obtain ⟨aa, capa, rfl⟩ := acts_form f1
  obtain ⟨a0, cap0, rfl⟩ := ints_form f0
  clear f1 z1 f0
  by_cases hbig : 1024 < l.length
  · by_cases hla : 200 < acts.length ∨ 2000 < l.length
    · rcases hla with hla | hla
      all_goals
        go_enter Try.func3, Try.ntmps3
        go_wp2_with fail
        refine (shown_any _).mono ?_
        rintro e w1 ⟨rfl, hb⟩
        go_wp2_with fail
        refine (new_big (HS.out.below hb) hbig).mono ?_
        rintro e w2 ⟨rfl, rfl⟩
        go_wp2_with fail
        refine (ref_new_big (HS.out.below hb) hbig).mono ?_
        rintro e w2 ⟨rfl, rfl⟩
        go_wp2_with fail
        all_goals
          go_ret
          exact ⟨rfl, hb⟩
    · have hla1 : acts.length ≤ 200 := by omega
      have hla2 : l.length ≤ 2000 := by omega
      clear hla
      go_enter Try.func3, Try.ntmps3
      go_wp2_with fail
      refine (shown_any _).mono ?_
      rintro e w1 ⟨rfl, hb⟩
      go_wp2_with fail
      refine (new_big (HS.out.below hb) hbig).mono ?_
      rintro e w2 ⟨rfl, rfl⟩
      go_wp2_with fail
      refine (ref_new_big (HS.out.below hb) hbig).mono ?_
      rintro e w2 ⟨rfl, rfl⟩
      go_wp2_with fail
      go_ret
      exact ⟨rfl, hb⟩
  have hn : l.length ≤ 1024 := by omega
  clear hbig
  by_cases hla : 200 < acts.length
  · go_enter Try.func3, Try.ntmps3
    go_wp2_with fail
    refine (shown_any _).mono ?_
    rintro e w1 ⟨rfl, hb⟩
    go_wp2_with fail
    refine (new_in (Here.of_below hb) (HS.out.below hb) hn).mono ?_
    rintro e w2 ⟨m, rfl, hh⟩
    have HH := Lib.hid hh; clear hh
    go_wp2_with fail
    refine (ref_new_in HH.out (HS.out.below HH.out.below) hn).mono ?_
    rintro e w3 ⟨c, rfl, hh3⟩
    have H3 := Lib.hid hh3; clear hh3
    go_wp2_with fail
    go_ret
    exact ⟨rfl, H3.out.below⟩
  have hla1 : acts.length ≤ 200 := by omega
  clear hla
  go_enter Try.func3, Try.ntmps3
  go_wp2_with fail
  refine (shown_any _).mono ?_
  rintro e w1 ⟨rfl, hb⟩
  go_wp2_with fail
  refine (new_in (Here.of_below hb) (HS.out.below hb) hn).mono ?_
  rintro e w2 ⟨m, rfl, hh⟩
  have HH := Lib.hid hh; clear hh
  go_wp2_with fail
  refine (ref_new_in HH.out (HS.out.below HH.out.below) hn).mono ?_
  rintro e w3 ⟨c, rfl, hh3⟩
  have H3 := Lib.hid hh3.swap; clear hh3 hb
  go_wp2_with fail
  go_loopw [12] (fun i wr => ∃ k : Nat, k ≤ acts.length ∧ i = .int .i64 k ∧ Rel w m c (play l acts k) wr) (fun i _ => acts.length - (intOf i).toNat)
  case atStart => exact ⟨0, Nat.zero_le _, rfl, H3.out⟩
  case round =>
    obtain ⟨j, hj, rfl, hr⟩ := hrel
    have HR := Lib.hid hr; clear hr
    obtain ⟨hp1, hp2⟩ := play_len l acts j
    by_cases hlt : j < acts.length
    · obtain ⟨ba, offa, rfl, x0, x1, x2, x3, x4⟩ := acts_at HS1.out HR.out.below j hlt
      have hok := HZ1.out acts[j] (List.getElem_mem hlt)
      have HOK := Lib.hid hok
      have HP := Lib.hid (And.intro hp1 hp2)
      clear hok hp1 hp2
      have hi1 : (0 : Int) ≤ (j : Int) := by omega
      have hi2 : (j : Int) < (acts.length : Int) := by omega
      go_wp2_with fail
      refine (does_any HR.out (by have := HP.out.1; omega) acts[j] HOK.out).mono ?_
      rintro e w4 ⟨rfl, h4⟩
      rw [play_succ l acts j hlt] at h4
      clear x0 x1 x2 x3 x4
      obtain ⟨hq1, hq2⟩ := play_len l acts (j + 1)
      obtain ⟨S, hS⟩ : ∃ S, S = play l acts (j + 1) := ⟨_, rfl⟩
      rw [← hS] at h4 hq1 hq2
      obtain ⟨F, u1, u2, hT⟩ := ref_here h4 (b := c) (S := S) (by simp)
      obtain ⟨b1, k1, rfl, _, hk1⟩ := hT.r1.slice
      obtain ⟨b2, k2, rfl, _, hk2⟩ := hT.r2.slice
      have hc0 := hT.c0
      have hc1 := hT.c1
      have hcl : c < w4.heap.size := hT.lt c hT.self
      have hwi : Ints w4 .u64 (.slice b1 S.ws.length k1) S.ws := ints_of (by simpa using hT.r1)
      rw [List.length_map] at hc0
      have HW := Lib.hid hwi
      have H4 := Lib.hid h4
      have HQ := Lib.hid (And.intro hq1 hq2)
      have HSE := Lib.hid hS
      clear h4 hwi hT hq1 hq2 hS
      go_wp2_with fail
      have hd4 : Below w4.heap.size w4 w4.drew := (Below.refl _ _).drew
      have HWd := Lib.hid (HW.out.below hd4)
      have H4d := Lib.hid H4.out.drew
      have hc0d : w4.drew.cell? ⟨c, 0, none⟩ = some (.slice b1 S.ws.length k1) := hc0
      have hc1d : w4.drew.cell? ⟨c, 1, none⟩ = some (.slice b2 S.ns.length k2) := hc1
      have hcld : c < w4.drew.heap.size := hcl
      have HC0 := Lib.hid hc0d; have HC1 := Lib.hid hc1d
      have hwl : S.ws.length ≤ 1000000 := by have := HQ.out.2; omega
      clear hd4 hc0d hc1d
      go_region_held3 (fun w' => w'.cell? ⟨c, 0, none⟩ = some (.slice b1 S.ws.length k1) ∧ w'.cell? ⟨c, 1, none⟩ = some (.slice b2 S.ns.length k2)) (go_keep) (first
        | (go_at_call 14; (refine (words_any H4d.out (b := m) (S := S) (by simp) hwl).mono ?_); rintro e w5 ⟨v5, rfl, hn5, hb5⟩; (have q0 := (hb5.cell (p := ⟨c, 0, none⟩) hcld).trans HC0.out); (have q1 := (hb5.cell (p := ⟨c, 1, none⟩) hcld).trans HC1.out); (have hcl5 : c < w5.heap.size := Nat.lt_of_lt_of_le hcld hb5.size); (have HI5 := Lib.hid (ints_of hn5)); (have HW5 := Lib.hid (HWd.out.below hb5)); (have H5 := Lib.hid (H4d.out.on hb5)); clear hn5 hb5)
        | (go_at_call 13; (refine (same_words HI5.out HW5.out hwl).mono ?_); rintro e w6 ⟨rfl, hb6⟩; (have q0 := (hb6.cell (p := ⟨c, 0, none⟩) hcl5).trans q0); (have q1 := (hb6.cell (p := ⟨c, 1, none⟩) hcl5).trans q1); (have H6 := Lib.hid (H5.out.on hb6)); clear hb6)
        | (go_at_call 15; (refine (count_any H6.out (b := m) (S := S) (by simp)).mono ?_); rintro e w7 ⟨rfl, rfl⟩)
        | (go_at_call 16; (refine (len_any H6.out (b := m) (S := S) (by simp)).mono ?_); rintro e w8 ⟨he, rfl⟩; rw [HQ.out.2] at he; subst he))
      go_wp2_with fail
      have H7 : Hid (Rel w m c (play l acts (j + 1)) w6) := by rw [← HSE.out]; exact H6.out
      go_roundw
      case rel => exact ⟨j + 1, by omega, by go_num, H7.out⟩
      case measure => simp [intOf]; omega
    · obtain rfl : j = acts.length := by omega
      obtain ⟨S, hS⟩ : ∃ S, S = play l acts acts.length := ⟨_, rfl⟩
      rw [← hS] at HR hp1 hp2
      obtain ⟨F, u1, u2, hT⟩ := ref_here HR.out (b := c) (S := S) (by simp)
      have hc1 := hT.c1
      have hcld : c < wr.drew.heap.size := hT.lt c hT.self
      have hsl : S.ns.length ≤ 1000000 := by omega
      have hdl : (S.ns.drop a2.toNat).length ≤ 1000000 := by rw [List.length_drop]; omega
      have Hd := Lib.hid HR.out.drew
      have hd4 : Below wr.heap.size wr wr.drew := (Below.refl _ _).drew
      clear HR hS hp1 hp2
      by_cases h0 : 0 < S.ns.length
      · obtain ⟨g, cap, hu, _, _, hcap, hmax, _⟩ := hT.r2.at_ h0
        subst hu
        have hc1d : wr.drew.cell? ⟨c, 1, none⟩ = some (.slice (some ⟨g, 0, none⟩) S.ns.length cap) := hc1
        have HC1 := Lib.hid hc1d
        clear hc1d
        by_cases hn0 : a2 ≤ 0
        · have hA := accs_drop hT.r2 0 (Nat.zero_le _) h0
          have HA : Hid (Accs wr.drew (.slice (some ⟨g, 0, none⟩) S.ns.length cap) (S.ns.drop a2.toNat)) := by
            rw [show a2.toNat = 0 by omega]
            unfold Hid
            simpa using Accs.below hA hd4
          clear hA hT hd4
          unfold maxLen at hmax
          have e1 : (if a2 < 0 then (0 : Int) else a2) = 0 := by split <;> omega
          go_wp2_with fail
          go_region_held3 (fun w' => w'.cell? ⟨c, 1, none⟩ = some (.slice (some ⟨g, 0, none⟩) S.ns.length cap)) (go_keep) (first
            | (go_at_call 18; (refine (since_any Hd.out (b := m) (S := S) (by simp) hsl a2).mono ?_); rintro e w5 ⟨v5, rfl, ha5, hb5⟩; (have q1 := (hb5.cell (p := ⟨c, 1, none⟩) hcld).trans HC1.out); (have hcl5 : c < w5.heap.size := Nat.lt_of_lt_of_le hcld hb5.size); (have HI5 := Lib.hid ha5); (have HR5 := Lib.hid (HA.out.below hb5)); (have H5 := Lib.hid (Hd.out.on hb5)); clear ha5 hb5)
            | (go_at_call 17; (refine (same_any HI5.out HR5.out hdl).mono ?_); rintro e w6 ⟨rfl, hb6⟩; (have q1 := (hb6.cell (p := ⟨c, 1, none⟩) hcl5).trans q1); (have H6 := Lib.hid (H5.out.on hb6)); clear hb6))
          all_goals
            go_wp2_with fail
            go_ret
            exact ⟨rfl, H6.out.below⟩
        · by_cases hn1 : S.ns.length ≤ a2
          · have HA : ∀ a c, c ≤ maxLen → Hid (Accs wr.drew (.slice a 0 c) (S.ns.drop a2.toNat)) := fun a c hc => by
              rw [List.drop_eq_nil_of_le (by omega)]
              exact accs_nil _ _ _ hc
            have e1 : (if a2 < 0 then (0 : Int) else a2) = a2 := by split <;> omega
            have e2 : (if (S.ns.length : Int) < a2 then (S.ns.length : Int) else a2) = S.ns.length := by split <;> omega
            clear hT hd4
            by_cases hcl : cap = S.ns.length
            · subst hcl
              have HA := HA (some ⟨g, 0, none⟩) 0 (by simp [maxLen])
              unfold maxLen at hmax
              go_wp2_with fail
              go_region_held3 (fun w' => w'.cell? ⟨c, 1, none⟩ = some (.slice (some ⟨g, 0, none⟩) S.ns.length S.ns.length)) (go_keep) (first
                | (go_at_call 18; (refine (since_any Hd.out (b := m) (S := S) (by simp) hsl a2).mono ?_); rintro e w5 ⟨v5, rfl, ha5, hb5⟩; (have q1 := (hb5.cell (p := ⟨c, 1, none⟩) hcld).trans HC1.out); (have hcl5 : c < w5.heap.size := Nat.lt_of_lt_of_le hcld hb5.size); (have HI5 := Lib.hid ha5); (have HR5 := Lib.hid (HA.out.below hb5)); (have H5 := Lib.hid (Hd.out.on hb5)); clear ha5 hb5)
                | (go_at_call 17; (refine (same_any HI5.out HR5.out hdl).mono ?_); rintro e w6 ⟨rfl, hb6⟩; (have q1 := (hb6.cell (p := ⟨c, 1, none⟩) hcl5).trans q1); (have H6 := Lib.hid (H5.out.on hb6)); clear hb6))
              all_goals
                go_wp2_with fail
                go_ret
                exact ⟨rfl, H6.out.below⟩
            · have HA := HA (some ⟨g, S.ns.length * 5, none⟩) (cap - S.ns.length) (by omega)
              have hi6 : ¬ cap - S.ns.length = 0 := by omega
              unfold maxLen at hmax
              go_wp2_with fail
              go_region_held3 (fun w' => w'.cell? ⟨c, 1, none⟩ = some (.slice (some ⟨g, 0, none⟩) S.ns.length cap)) (go_keep) (first
                | (go_at_call 18; (refine (since_any Hd.out (b := m) (S := S) (by simp) hsl a2).mono ?_); rintro e w5 ⟨v5, rfl, ha5, hb5⟩; (have q1 := (hb5.cell (p := ⟨c, 1, none⟩) hcld).trans HC1.out); (have hcl5 : c < w5.heap.size := Nat.lt_of_lt_of_le hcld hb5.size); (have HI5 := Lib.hid ha5); (have HR5 := Lib.hid (HA.out.below hb5)); (have H5 := Lib.hid (Hd.out.on hb5)); clear ha5 hb5)
                | (go_at_call 17; (refine (same_any HI5.out HR5.out hdl).mono ?_); rintro e w6 ⟨rfl, hb6⟩; (have q1 := (hb6.cell (p := ⟨c, 1, none⟩) hcl5).trans q1); (have H6 := Lib.hid (H5.out.on hb6)); clear hb6))
              all_goals
                go_wp2_with fail
                go_ret
                exact ⟨rfl, H6.out.below⟩
          · obtain ⟨k0, rfl⟩ : ∃ k0 : Nat, a2 = k0 := ⟨a2.toNat, by omega⟩
            have hA := accs_drop hT.r2 k0 (by omega) h0
            have HA : Hid (Accs wr.drew (.slice (some ⟨g, k0 * 5, none⟩) (S.ns.length - k0) (cap - k0)) (S.ns.drop (k0 : Int).toNat)) := Accs.below hA hd4
            clear hA hT hd4
            unfold maxLen at hmax
            have hi3 : (k0 : Int) ≤ (S.ns.length : Int) := by omega
            have hi4 : (k0 : Int) < (S.ns.length : Int) := by omega
            have hi5 : (k0 : Int) ≤ (cap : Int) := by omega
            have hi6 : ¬ cap = k0 := by omega
            have hi7 : ¬ cap - k0 = 0 := by omega
            have hi8 : (0 : Int) < (k0 : Int) := by omega
            go_wp2_with fail
            go_region_held3 (fun w' => w'.cell? ⟨c, 1, none⟩ = some (.slice (some ⟨g, 0, none⟩) S.ns.length cap)) (go_keep) (first
              | (go_at_call 18; (refine (since_any Hd.out (b := m) (S := S) (by simp) hsl k0).mono ?_); rintro e w5 ⟨v5, rfl, ha5, hb5⟩; (have q1 := (hb5.cell (p := ⟨c, 1, none⟩) hcld).trans HC1.out); (have hcl5 : c < w5.heap.size := Nat.lt_of_lt_of_le hcld hb5.size); (have HI5 := Lib.hid ha5); (have HR5 := Lib.hid (HA.out.below hb5)); (have H5 := Lib.hid (Hd.out.on hb5)); clear ha5 hb5)
              | (go_at_call 17; (refine (same_any HI5.out HR5.out hdl).mono ?_); rintro e w6 ⟨rfl, hb6⟩; (have q1 := (hb6.cell (p := ⟨c, 1, none⟩) hcl5).trans q1); (have H6 := Lib.hid (H5.out.on hb6)); clear hb6))
            all_goals
              go_wp2_with fail
              go_ret
              exact ⟨rfl, H6.out.below⟩
      · have hns : S.ns = [] := List.eq_nil_of_length_eq_zero (by omega)
        have HA0 : ∀ a c, c ≤ maxLen → Hid (Accs wr.drew (.slice a 0 c) (S.ns.drop a2.toNat)) := fun a c hc => by
          rw [hns, List.drop_nil]
          exact accs_nil _ _ _ hc
        have hv : u2 = .slice none 0 0 ∨ ∃ g cap, u2 = .slice (some ⟨g, 0, none⟩) 0 cap ∧ cap ≤ maxLen := by
          rcases hT.r2.1.2 with ⟨hu, _⟩ | ⟨g, cap, cur, hu, _, _, _, hm, _⟩
          · exact .inl hu
          · exact .inr ⟨g, cap, by rw [hu, hns]; rfl, hm⟩
        clear hT hd4 hns h0
        have h2a : a2 < 0 ∨ 0 ≤ a2 := by omega
        rcases hv with rfl | ⟨g, cap, rfl, hmax⟩
        · have hc1d : wr.drew.cell? ⟨c, 1, none⟩ = some (.slice none 0 0) := hc1
          have HC1 := Lib.hid hc1d
          have HA := HA0 none 0 (by simp [maxLen])
          clear hc1d HA0
          rcases h2a with h2a | h2a
          · have e1 : (if a2 < 0 then (0 : Int) else a2) = 0 := by split <;> omega
            go_wp2_with fail
            go_region_held3 (fun w' => w'.cell? ⟨c, 1, none⟩ = some (.slice none 0 0)) (go_keep) (first
              | (go_at_call 18; (refine (since_any Hd.out (b := m) (S := S) (by simp) hsl a2).mono ?_); rintro e w5 ⟨v5, rfl, ha5, hb5⟩; (have q1 := (hb5.cell (p := ⟨c, 1, none⟩) hcld).trans HC1.out); (have hcl5 : c < w5.heap.size := Nat.lt_of_lt_of_le hcld hb5.size); (have HI5 := Lib.hid ha5); (have HR5 := Lib.hid (HA.out.below hb5)); (have H5 := Lib.hid (Hd.out.on hb5)); clear ha5 hb5)
              | (go_at_call 17; (refine (same_any HI5.out HR5.out hdl).mono ?_); rintro e w6 ⟨rfl, hb6⟩; (have q1 := (hb6.cell (p := ⟨c, 1, none⟩) hcl5).trans q1); (have H6 := Lib.hid (H5.out.on hb6)); clear hb6))
            all_goals
              go_wp2_with fail
              go_ret
              exact ⟨rfl, H6.out.below⟩
          · have e1 : (if a2 < 0 then (0 : Int) else a2) = a2 := by split <;> omega
            have e2 : (if (0 : Int) < a2 then (0 : Int) else a2) = 0 := by split <;> omega
            go_wp2_with fail
            go_region_held3 (fun w' => w'.cell? ⟨c, 1, none⟩ = some (.slice none 0 0)) (go_keep) (first
              | (go_at_call 18; (refine (since_any Hd.out (b := m) (S := S) (by simp) hsl a2).mono ?_); rintro e w5 ⟨v5, rfl, ha5, hb5⟩; (have q1 := (hb5.cell (p := ⟨c, 1, none⟩) hcld).trans HC1.out); (have hcl5 : c < w5.heap.size := Nat.lt_of_lt_of_le hcld hb5.size); (have HI5 := Lib.hid ha5); (have HR5 := Lib.hid (HA.out.below hb5)); (have H5 := Lib.hid (Hd.out.on hb5)); clear ha5 hb5)
              | (go_at_call 17; (refine (same_any HI5.out HR5.out hdl).mono ?_); rintro e w6 ⟨rfl, hb6⟩; (have q1 := (hb6.cell (p := ⟨c, 1, none⟩) hcl5).trans q1); (have H6 := Lib.hid (H5.out.on hb6)); clear hb6))
            all_goals
              go_wp2_with fail
              go_ret
              exact ⟨rfl, H6.out.below⟩
        · have hc1d : wr.drew.cell? ⟨c, 1, none⟩ = some (.slice (some ⟨g, 0, none⟩) 0 cap) := hc1
          have HC1 := Lib.hid hc1d
          have HA := HA0 (some ⟨g, 0, none⟩) cap hmax
          clear hc1d HA0
          unfold maxLen at hmax
          rcases h2a with h2a | h2a
          · have e1 : (if a2 < 0 then (0 : Int) else a2) = 0 := by split <;> omega
            go_wp2_with fail
            go_region_held3 (fun w' => w'.cell? ⟨c, 1, none⟩ = some (.slice (some ⟨g, 0, none⟩) 0 cap)) (go_keep) (first
              | (go_at_call 18; (refine (since_any Hd.out (b := m) (S := S) (by simp) hsl a2).mono ?_); rintro e w5 ⟨v5, rfl, ha5, hb5⟩; (have q1 := (hb5.cell (p := ⟨c, 1, none⟩) hcld).trans HC1.out); (have hcl5 : c < w5.heap.size := Nat.lt_of_lt_of_le hcld hb5.size); (have HI5 := Lib.hid ha5); (have HR5 := Lib.hid (HA.out.below hb5)); (have H5 := Lib.hid (Hd.out.on hb5)); clear ha5 hb5)
              | (go_at_call 17; (refine (same_any HI5.out HR5.out hdl).mono ?_); rintro e w6 ⟨rfl, hb6⟩; (have q1 := (hb6.cell (p := ⟨c, 1, none⟩) hcl5).trans q1); (have H6 := Lib.hid (H5.out.on hb6)); clear hb6))
            all_goals
              go_wp2_with fail
              go_ret
              exact ⟨rfl, H6.out.below⟩
          · have e1 : (if a2 < 0 then (0 : Int) else a2) = a2 := by split <;> omega
            have e2 : (if (0 : Int) < a2 then (0 : Int) else a2) = 0 := by split <;> omega
            go_wp2_with fail
            go_region_held3 (fun w' => w'.cell? ⟨c, 1, none⟩ = some (.slice (some ⟨g, 0, none⟩) 0 cap)) (go_keep) (first
              | (go_at_call 18; (refine (since_any Hd.out (b := m) (S := S) (by simp) hsl a2).mono ?_); rintro e w5 ⟨v5, rfl, ha5, hb5⟩; (have q1 := (hb5.cell (p := ⟨c, 1, none⟩) hcld).trans HC1.out); (have hcl5 : c < w5.heap.size := Nat.lt_of_lt_of_le hcld hb5.size); (have HI5 := Lib.hid ha5); (have HR5 := Lib.hid (HA.out.below hb5)); (have H5 := Lib.hid (Hd.out.on hb5)); clear ha5 hb5)
              | (go_at_call 17; (refine (same_any HI5.out HR5.out hdl).mono ?_); rintro e w6 ⟨rfl, hb6⟩; (have q1 := (hb6.cell (p := ⟨c, 1, none⟩) hcl5).trans q1); (have H6 := Lib.hid (H5.out.on hb6)); clear hb6))
            all_goals
              go_wp2_with fail
              go_ret
              exact ⟨rfl, H6.out.below⟩
theorem own : ownKnob Try.prog.godebug = none := by kernel_rfl
theorem laidOut : laidOutB Try.prog = true := by kernel_rfl
theorem cells_uint64 : Try.prog.cellsOf 33 = 1 := by kernel_rfl
set_option maxRecDepth 100000 in
theorem lifted (os : Os) (started : os.Started) (H : Type) (enc : TypeId × Value → H) :
    ReturnsInHanded {} Try.checked os 3 .any (Rows.wmemPlaysSpec.pre6 enc Try.prog Try.f3 Rows.wmemPlaysRow.domain false) (Rows.wmemPlaysSpec.post enc Try.prog Try.f3 false true false false) := by
  refine returnsInHanded_of_change (C := Try.checked) own started (by kernel_rfl) Try.func3
    (ChangeSpec.witness6 (enc := enc) (C := Try.checked) false ⟨#[], #[.slice none 0 0, .slice none 0 0, .int .i64 0], []⟩ 8 (by kernel_rfl) (by kernel_rfl) (by kernel_rfl) (by kernel_rfl)) ?_
  intro W base args ds gs before hval0 hW hcnd _
  have hval : ∀ (j : Nat) t v, Try.f3.params[j]? = some t → args[j]? = some v → Value.okWide Try.prog W .any base t v := hval0
  have hW' := hW
  obtain ⟨p, q, hA0, hV, rfl, hfz, hnd⟩ := hW
  have hA : DataW.TrodAll enc Try.prog W 0 (fun _ => true) true Try.f3.params.toList args.toList ds p := hA0
  rw [Try.params3] at hA hval
  obtain ⟨v0, vs0, d0, ds0, p0, q0, hargs, rfl, rfl, h0, r0⟩ := trodAll_cons hA
  obtain ⟨v1, vs1, d1, ds1, p1, q1, rfl, rfl, rfl, h1, r1⟩ := trodAll_cons r0
  obtain ⟨v2, vs2, d2, ds2, p2, q2, rfl, rfl, rfl, h2, r2⟩ := trodAll_cons r1
  obtain ⟨rfl, rfl, rfl⟩ := trodAll_nil r2
  obtain rfl : args = #[v0, v1, v2] := by cases args; simp_all
  obtain ⟨rfl, rfl⟩ := trodVars_none hV
  obtain ⟨a0, w0, z0⟩ := lift.open_row Try.underlying22 Try.underlying33 cells_uint64 (okWide_slice Try.underlying22 (hval 0 22 v0 rfl rfl)) h0
  obtain ⟨a1, w1, z1⟩ := open_acts (okWide_slice Try.underlying23 (hval 1 23 v1 rfl rfl)) h1
  obtain ⟨a2, rfl, rfl, rfl, w2⟩ := open_int Try.underlying3 (hval 2 3 v2 rfl rfl) h2
  clear hA0 hval0
  refine (walk v0 a0 v1 a1 a2 w2 W w0 z0 w1 z1).mono fun e W' ⟨he, hb⟩ => ?_
  subst he
  exact ⟨_, rfl, lift.post_law (tb := 4) laidOut (by rw [Try.params3]; exact fun t ht => (of_decide_eq_true (by kernel_rfl) : ∀ t ∈ [22, 23, 3], Try.prog.readableRec t = true ∧ t < Try.prog.types.size) t ht) (by kernel_rfl) Try.underlying4 rfl hW' rfl hb⟩
theorem over : Rows.wmemPlaysRow.holds Try.pinned (OpenSpec.ofChange Rows.wmemPlaysSpec) :=
  OpenClaim.holds_of_wide 3 Try.f3 rfl rfl rfl rfl rfl rfl rfl ⟨rfl, rfl, rfl, rfl, rfl⟩ rfl rfl rfl rfl rfl (by kernel_rfl) Try.func3 (by kernel_rfl)
    (of_decide_eq_true (by kernel_rfl)) (by unfold Func.isWrapper; first | (rw [if_pos (by decide +kernel)]; kernel_rfl) | (rw [if_neg (by decide +kernel)]; exact ⟨rfl, rfl⟩))
    (fun os started H enc _ => lifted os started H enc)
theorem proved : Rows.WmemPlaysSaid :=
  over
end Go.Proofs.Ytkhhkdkbckdehaa.wmemPlays
