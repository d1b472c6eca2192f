/- Contract of hatstandref3.Same, over this seat's program. -/
import Derived.Test.YtolampkhohahlaaDoorGlyphB
namespace Go.Proofs.YtolampkhohahlaaDoor.g3
open Go.ChangeShapes Go.WideShapes Go.ChangeAt Go.RowKit frame lift gl own
set_option linter.unusedVariables false
def sameE (x y : Ent) (at_ : Bool) : Bool := (x.op == y.op) && (x.ok == y.ok) && (!at_ || x.at_ == y.at_) && (x.args == y.args)
def same : List Ent → List Ent → Bool → Bool
  | [], [], _ => true
  | x :: a, y :: b, t => sameE x y t && same a b t
  | _, _, _ => false
theorem same_len (a b : List Ent) (t : Bool) (h : a.length ≠ b.length) : same a b t = false := by
  induction a generalizing b with
  | nil => cases b with
    | nil => exact (h rfl).elim
    | cons y b => rfl
  | cons x a ih => cases b with
    | nil => rfl
    | cons y b => rw [same, ih b (by simpa using h)]; simp
theorem rents_form {w : World} {v : Value} {l : List Ent} (h : REnts w v l) : ∃ a cap, v = .slice a l.length cap ∧ (0 < l.length → ∃ g o, a = some ⟨g, o, none⟩ ∧ g < w.heap.size ∧
    ∀ (i : Nat) (h : i < l.length), ∃ av, w.cell? ⟨g, o + i * 4, none⟩ = some (.int .i64 l[i].op) ∧ w.cell? ⟨g, o + i * 4 + 1, none⟩ = some av ∧ w.cell? ⟨g, o + i * 4 + 2, none⟩ = some (.bool l[i].ok) ∧
      w.cell? ⟨g, o + i * 4 + 3, none⟩ = some (.int .i64 l[i].at_) ∧ Ints w .u64 av l[i].args) := by
  rcases h with ⟨rfl, a, cap, rfl⟩ | ⟨h0, g, o, cap, rfl, _, _, hg, hc⟩
  · exact ⟨a, cap, rfl, fun h => by simp at h⟩
  · exact ⟨_, cap, rfl, fun _ => ⟨g, o, rfl, hg, hc⟩⟩
theorem ints_form' {w : World} {v : Value} {l : List Int} (h : Ints w .u64 v l) : ∃ a cap, v = .slice a l.length cap ∧ (0 < l.length → ∃ b off, a = some ⟨b, off, none⟩ ∧ b < w.heap.size ∧ ∀ i, i < l.length → w.cell? ⟨b, off + i, none⟩ = some (.int .u64 (nth l i))) := by
  rcases h with ⟨rfl, a, cap, rfl⟩ | ⟨h0, b, off, cap, rfl, _, _, hb, hc⟩
  · exact ⟨a, cap, rfl, fun h => by simp at h⟩
  · exact ⟨_, cap, rfl, fun _ => ⟨b, off, rfl, hb, hc⟩⟩
theorem take_nth (l : List Int) (t : Nat) (h : t < l.length) : l.take (t + 1) = l.take t ++ [nth l t] := by
  rw [List.take_succ_eq_append_getElem h]
  simp [nth, List.getD, h]
set_option maxRecDepth 100000 in
set_option maxHeartbeats 8000000 in
theorem same_any {va vb : Value} {a b : List Ent} (at_ : Bool) (w : World) (ha : REnts w va a) (hb : REnts w vb b) (hL : a.length ≤ 1000000) (hL2 : ∀ e ∈ a, e.args.length ≤ 1000000) :
    Calls Tryd.prog 12 #[va, vb, .bool at_] w fun e w' => e = .returned (.bool (same a b at_)) ∧ Below w.heap.size w w' := by
  obtain ⟨aa, ca, rfl, hca⟩ := rents_form ha
  obtain ⟨ab, cb, rfl, hcb⟩ := rents_form hb
  have HCA := Lib.hid hca; have HCB := Lib.hid hcb
  clear ha hb hca hcb
  have HL2 := Lib.hid hL2; clear hL2
  by_cases hlen : a.length = b.length
  · have hlen2 : (b.length : Int) = (a.length : Int) := by omega
    rw [← hlen]
    have HLE := Lib.hid hlen
    clear hlen hlen2
    go_enter Tryd.func12, Tryd.ntmps12
    go_wp2_with fail
    go_loopw [7] (fun i wr => ∃ k : Nat, k ≤ a.length ∧ i = .int .i64 k ∧ Below w.heap.size w wr ∧ Hid (same (a.drop k) (b.drop k) at_ = same a b at_)) (fun i _ => a.length - (intOf i).toNat)
    case atStart => exact ⟨0, Nat.zero_le _, rfl, Below.refl _ _, rfl⟩
    case round =>
      obtain ⟨k, hk, rfl, hbr, HS⟩ := hrel
      by_cases hlt : k < a.length
      · have hltb : k < b.length := by rw [← HLE.out]; exact hlt
        obtain ⟨ga, oa, rfl, hga, hcA⟩ := HCA.out (by omega)
        obtain ⟨gb, ob, rfl, hgb, hcB⟩ := HCB.out (by omega)
        obtain ⟨ava, d0, d1, d2, d3, hava⟩ := hcA k hlt
        obtain ⟨avb, f0, f1, f2, f3, havb⟩ := hcB k hltb
        obtain ⟨pa, pca, rfl, hpa⟩ := ints_form' hava
        obtain ⟨pb, pcb, rfl, hpb⟩ := ints_form' havb
        have D1 := Lib.hid d1; have F1 := Lib.hid f1
        have ta : ∀ j, wr.cell? ⟨ga, j, none⟩ = w.cell? ⟨ga, j, none⟩ := fun j => hbr.cell (p := ⟨ga, j, none⟩) hga
        have tb : ∀ j, wr.cell? ⟨gb, j, none⟩ = w.cell? ⟨gb, j, none⟩ := fun j => hbr.cell (p := ⟨gb, j, none⟩) hgb
        rw [← ta] at d0 d1 d2 d3
        rw [← tb] at f0 f1 f2 f3
        have HPA := Lib.hid hpa; have HPB := Lib.hid hpb
        have hal := HL2.out a[k] (List.getElem_mem hlt)
        have HA1 : Hid (a.drop k = a[k] :: a.drop (k + 1)) := List.drop_eq_getElem_cons hlt
        have HB1 : Hid (b.drop k = b[k] :: b.drop (k + 1)) := List.drop_eq_getElem_cons hltb
        clear ta tb hcA hcB hava havb hpa hpb
        have hi1 : (0 : Int) ≤ (k : Int) := by omega
        have hi2 : (k : Int) < (a.length : Int) := by omega
        obtain ⟨x, hx⟩ : ∃ x, a[k] = x := ⟨_, rfl⟩
        obtain ⟨y, hy⟩ : ∃ y, b[k] = y := ⟨_, rfl⟩
        rw [hx] at d0 d2 d3 hal HPA HA1
        rw [hx] at d1 D1
        rw [hy] at f0 f1 f2 f3 HPB HB1 F1
        have hwf : ∀ z, sameE x y at_ = z → same a b at_ = (z && same (a.drop (k + 1)) (b.drop (k + 1)) at_) := fun z hz => by
          rw [← HS.out, HA1.out, HB1.out, same, hz]
        have HWF := Lib.hid hwf
        clear hx hy hwf
        by_cases q1 : x.op = y.op
        · rw [← q1] at f0
          by_cases q2 : x.ok = y.ok
          · rw [← q2] at f2
            by_cases q3 : at_ = true ∧ x.at_ ≠ y.at_
            · obtain ⟨rfl, q3⟩ := q3
              have n1 : ((x.at_ : Int) == (y.at_ : Int)) = false := by rw [beq_eq_false_iff_ne]; omega
              have n2 : (x.at_ == y.at_) = false := by rw [beq_eq_false_iff_ne]; exact q3
              have n3 : ((x.at_ : Int) != (y.at_ : Int)) = true := by rw [bne, n1]; rfl
              have n4 : (x.at_ != y.at_) = true := by rw [bne, n2]; rfl
              have HB : Hid (same a b true = false) := by
                have := HWF.out false (by unfold sameE; rw [n2]; simp)
                rw [Bool.false_and] at this
                exact this
              clear q1 q2 q3 d1 f1
              go_wp2_with fail
              go_quiet (fail)
              go_wp2_with fail
              go_ret
              rw [HB.out]
              exact ⟨rfl, drewN_below hbr _⟩
            · have hat3 : (!at_ || x.at_ == y.at_) = true := by
                cases at_ with
                | false => rfl
                | true =>
                  have : x.at_ = y.at_ := Decidable.byContradiction fun h => q3 ⟨rfl, h⟩
                  simp [this]
              by_cases q4 : x.args.length = y.args.length
              · rw [← q4] at f1 F1 HPB
                have HQ4 := Lib.hid q4
                have Q1 := Lib.hid q1; have Q2 := Lib.hid q2; have HAT := Lib.hid hat3
                have hfin : ∀ z, (x.args == y.args) = z → same a b at_ = (z && same (a.drop (k + 1)) (b.drop (k + 1)) at_) := fun z hz => by
                  refine HWF.out z ?_
                  unfold sameE
                  rw [hz, Q1.out, Q2.out, HAT.out]
                  simp
                have HFIN := Lib.hid hfin
                clear hfin
                cases hat : at_ with
                | true =>
                  have q5 : x.at_ = y.at_ := Decidable.byContradiction fun h => q3 ⟨hat, h⟩
                  rw [← q5] at f3
                  clear q1 q2 q3 q4 q5 hat3
                  go_wp2_with fail
                  go_quiet (fail)
                  go_wp2_with fail
                  go_loopw [8] (fun j wv => ∃ t : Nat, t ≤ x.args.length ∧ j = .int .i64 t ∧ Below w.heap.size w wv ∧ Hid (x.args.take t = y.args.take t)) (fun j _ => x.args.length - (intOf j).toNat)
                  case atStart => exact ⟨0, Nat.zero_le _, rfl, drewN_below hbr _, by unfold Hid; simp⟩
                  case round =>
                    obtain ⟨t, htl, rfl, hbv, HT⟩ := hrel
                    have d1' := (hbv.cell (p := ⟨ga, oa + k * 4 + 1, none⟩) hga).trans D1.out
                    have f1' := (hbv.cell (p := ⟨gb, ob + k * 4 + 1, none⟩) hgb).trans F1.out
                    clear d0 d1 d2 d3 f0 f1 f2 f3
                    by_cases hltt : t < x.args.length
                    · obtain ⟨pa1, po1, rfl, hpa1, hpac⟩ := HPA.out (by omega)
                      obtain ⟨pb1, po2, rfl, hpb1, hpbc⟩ := HPB.out (by omega)
                      have e1 := (hbv.cell (p := ⟨pa1, po1 + t, none⟩) hpa1).trans (hpac t hltt)
                      have e2 := (hbv.cell (p := ⟨pb1, po2 + t, none⟩) hpb1).trans (hpbc t hltt)
                      have hj1 : (0 : Int) ≤ (t : Int) := by omega
                      have hj2 : (t : Int) < (x.args.length : Int) := by omega
                      clear hpac hpbc
                      by_cases hq : nth x.args t = nth y.args t
                      · rw [← hq] at e2
                        have HT2 : Hid (x.args.take (t + 1) = y.args.take (t + 1)) := by
                          unfold Hid
                          rw [take_nth _ _ hltt, take_nth _ _ (by rw [← HQ4.out]; exact hltt), HT.out, hq]
                        clear hq
                        go_wp2_with fail
                        go_quiet (fail)
                        go_wp2_with fail
                        go_roundw
                        case rel => exact ⟨t + 1, by omega, by go_num, drewN_below hbv _, HT2⟩
                        case measure => simp [intOf]; omega
                      · have m1 : (nth x.args t == nth y.args t) = false := by rw [beq_eq_false_iff_ne]; exact hq
                        have m2 : (nth x.args t != nth y.args t) = true := by rw [bne, m1]; rfl
                        have HB : Hid (same a b at_ = false) := by
                          have := HFIN.out false (by rw [beq_eq_false_iff_ne]; intro e; exact hq (by rw [e]))
                          rw [Bool.false_and] at this
                          exact this
                        clear hq
                        go_wp2_with fail
                        go_quiet (fail)
                        go_wp2_with fail
                        go_ret
                        rw [HB.out]
                        exact ⟨rfl, drewN_below hbv _⟩
                    · obtain rfl : t = x.args.length := by omega
                      have HS2 : Hid (same (a.drop (k + 1)) (b.drop (k + 1)) at_ = same a b at_) := by
                        have h := HT.out
                        rw [List.take_length] at h
                        have h2 : x.args = y.args := by
                          conv at h => rhs; rw [HQ4.out]
                          rw [List.take_length] at h
                          exact h
                        have := HFIN.out true (by rw [beq_iff_eq]; exact h2)
                        rw [Bool.true_and] at this
                        exact this.symm
                      go_wp2_with fail
                      go_roundw
                      case rel => exact ⟨k + 1, by omega, by go_num, hbv, by have h := HS2; rw [hat] at h; exact h⟩
                      case measure => simp [intOf]; omega
                | false =>
                  clear q1 q2 q3 q4 hat3
                  go_wp2_with fail
                  go_quiet (fail)
                  go_wp2_with fail
                  go_loopw [8] (fun j wv => ∃ t : Nat, t ≤ x.args.length ∧ j = .int .i64 t ∧ Below w.heap.size w wv ∧ Hid (x.args.take t = y.args.take t)) (fun j _ => x.args.length - (intOf j).toNat)
                  case atStart => exact ⟨0, Nat.zero_le _, rfl, drewN_below hbr _, by unfold Hid; simp⟩
                  case round =>
                    obtain ⟨t, htl, rfl, hbv, HT⟩ := hrel
                    have d1' := (hbv.cell (p := ⟨ga, oa + k * 4 + 1, none⟩) hga).trans D1.out
                    have f1' := (hbv.cell (p := ⟨gb, ob + k * 4 + 1, none⟩) hgb).trans F1.out
                    clear d0 d1 d2 d3 f0 f1 f2 f3
                    by_cases hltt : t < x.args.length
                    · obtain ⟨pa1, po1, rfl, hpa1, hpac⟩ := HPA.out (by omega)
                      obtain ⟨pb1, po2, rfl, hpb1, hpbc⟩ := HPB.out (by omega)
                      have e1 := (hbv.cell (p := ⟨pa1, po1 + t, none⟩) hpa1).trans (hpac t hltt)
                      have e2 := (hbv.cell (p := ⟨pb1, po2 + t, none⟩) hpb1).trans (hpbc t hltt)
                      have hj1 : (0 : Int) ≤ (t : Int) := by omega
                      have hj2 : (t : Int) < (x.args.length : Int) := by omega
                      clear hpac hpbc
                      by_cases hq : nth x.args t = nth y.args t
                      · rw [← hq] at e2
                        have HT2 : Hid (x.args.take (t + 1) = y.args.take (t + 1)) := by
                          unfold Hid
                          rw [take_nth _ _ hltt, take_nth _ _ (by rw [← HQ4.out]; exact hltt), HT.out, hq]
                        clear hq
                        go_wp2_with fail
                        go_quiet (fail)
                        go_wp2_with fail
                        go_roundw
                        case rel => exact ⟨t + 1, by omega, by go_num, drewN_below hbv _, HT2⟩
                        case measure => simp [intOf]; omega
                      · have m1 : (nth x.args t == nth y.args t) = false := by rw [beq_eq_false_iff_ne]; exact hq
                        have m2 : (nth x.args t != nth y.args t) = true := by rw [bne, m1]; rfl
                        have HB : Hid (same a b at_ = false) := by
                          have := HFIN.out false (by rw [beq_eq_false_iff_ne]; intro e; exact hq (by rw [e]))
                          rw [Bool.false_and] at this
                          exact this
                        clear hq
                        go_wp2_with fail
                        go_quiet (fail)
                        go_wp2_with fail
                        go_ret
                        rw [HB.out]
                        exact ⟨rfl, drewN_below hbv _⟩
                    · obtain rfl : t = x.args.length := by omega
                      have HS2 : Hid (same (a.drop (k + 1)) (b.drop (k + 1)) at_ = same a b at_) := by
                        have h := HT.out
                        rw [List.take_length] at h
                        have h2 : x.args = y.args := by
                          conv at h => rhs; rw [HQ4.out]
                          rw [List.take_length] at h
                          exact h
                        have := HFIN.out true (by rw [beq_iff_eq]; exact h2)
                        rw [Bool.true_and] at this
                        exact this.symm
                      go_wp2_with fail
                      go_roundw
                      case rel => exact ⟨k + 1, by omega, by go_num, hbv, by have h := HS2; rw [hat] at h; exact h⟩
                      case measure => simp [intOf]; omega
              · have n1 : ((x.args.length : Int) == (y.args.length : Int)) = false := by rw [beq_eq_false_iff_ne]; omega
                have n2 : (x.args.length == y.args.length) = false := by rw [beq_eq_false_iff_ne]; exact q4
                have n3 : ((x.args.length : Int) != (y.args.length : Int)) = true := by rw [bne, n1]; rfl
                have n4 : (x.args.length != y.args.length) = true := by rw [bne, n2]; rfl
                have HB : Hid (same a b at_ = false) := by
                  have := HWF.out false (by
                    unfold sameE
                    rw [show (x.args == y.args) = false by rw [beq_eq_false_iff_ne]; intro e; exact q4 (by rw [e])]
                    simp)
                  rw [Bool.false_and] at this
                  exact this
                cases hat : at_ with
                | true =>
                  have q5 : x.at_ = y.at_ := Decidable.byContradiction fun h => q3 ⟨hat, h⟩
                  rw [← q5] at f3
                  clear q1 q2 q3 q4 q5 hat3
                  go_wp2_with fail
                  go_quiet (fail)
                  go_wp2_with fail
                  go_ret
                  rw [HB.out]
                  exact ⟨rfl, drewN_below hbr _⟩
                | false =>
                  clear q1 q2 q3 q4 hat3
                  go_wp2_with fail
                  go_quiet (fail)
                  go_wp2_with fail
                  go_ret
                  rw [HB.out]
                  exact ⟨rfl, drewN_below hbr _⟩
          · have n2 : (x.ok != y.ok) = true := by rw [bne, beq_eq_false_iff_ne.2 q2]; rfl
            have HB : Hid (same a b at_ = false) := by
              have := HWF.out false (by unfold sameE; rw [beq_eq_false_iff_ne.2 q2]; simp)
              rw [Bool.false_and] at this
              exact this
            have q2' : (x.ok = true ∧ y.ok = false) ∨ (x.ok = false ∧ y.ok = true) := by
              cases h1 : x.ok <;> cases h2 : y.ok <;> simp_all
            clear q1 q2 n2
            rcases q2' with ⟨h1, h2⟩ | ⟨h1, h2⟩
            all_goals
              rw [h1] at d2
              rw [h2] at f2
              clear h1 h2 d1 f1
              go_wp2_with fail
              go_quiet (fail)
              go_wp2_with fail
              go_ret
              rw [HB.out]
              exact ⟨rfl, drewN_below hbr _⟩
        · have n1 : (x.op == y.op) = false := by rw [beq_eq_false_iff_ne]; exact q1
          have n2 : (x.op != y.op) = true := by rw [bne, n1]; rfl
          have HB : Hid (same a b at_ = false) := by
            have := HWF.out false (by unfold sameE; rw [n1]; simp)
            rw [Bool.false_and] at this
            exact this
          clear q1 d1 f1
          go_wp2_with fail
          go_quiet (fail)
          go_wp2_with fail
          go_ret
          rw [HB.out]
          exact ⟨rfl, drewN_below hbr _⟩
      · obtain rfl : k = a.length := by omega
        have HF : Hid (same a b at_ = true) := by
          unfold Hid
          rw [← HS.out, List.drop_length, HLE.out, List.drop_length]
          rfl
        go_wp2_with fail
        go_ret
        rw [HF.out]
        exact ⟨rfl, hbr⟩
  · have HF : Hid (same a b at_ = false) := same_len a b at_ hlen
    have q : ((a.length : Int) == (b.length : Int)) = false := by rw [beq_eq_false_iff_ne]; omega
    have q2 : (a.length == b.length) = false := by rw [beq_eq_false_iff_ne]; exact hlen
    have q3 : ((a.length : Int) != (b.length : Int)) = true := by rw [bne, q]; rfl
    have q4 : (a.length != b.length) = true := by rw [bne, q2]; rfl
    go_enter Tryd.func12, Tryd.ntmps12
    go_wp2_with fail
    go_ret
    rw [HF.out]
    exact ⟨rfl, Below.refl _ _⟩
end Go.Proofs.YtolampkhohahlaaDoor.g3
