/- Contracts of package hatstandref3, on: Put, over this seat's program. -/
import Derived.Test.YtolampkhohahlaaDoorGlyphP
import Derived.Test.YtolampkhohahlaaDoorGlyphD
import Derived.Test.YtolampkhohahlaaDoorGlyphO
namespace Go.Proofs.YtolampkhohahlaaDoor.g3
open Go.ChangeShapes Go.WideShapes Go.ChangeAt Go.RowKit frame lift gl own
set_option linter.unusedVariables false
theorem utf8_le (r : Int) : (utf8 r).length ≤ 4 := by
  unfold utf8
  split
  · simp
  · split
    · simp
    · split <;> simp
theorem putA_snoc (l : List Int) (n : Int) : putA (l ++ [n]) = putA l ++ (if l = [] then [] else [44]) ++ digits n := by
  induction l with
  | nil => simp [putA]
  | cons m l ih =>
    cases l with
    | nil => simp [putA]
    | cons m' l =>
      rw [List.cons_append, List.cons_append, putA, ← List.cons_append, ih, putA]
      simp
def PutPost (w : World) (l : List Ent) (e : Ending) (w' : World) : Prop :=
  Below w.heap.size w w' ∧ (((∃ x ∈ l, bad x = true) ∧ e = .returned (.tuple #[.string ⟨#[]⟩, .int .i64 1])) ∨ ((∀ x ∈ l, bad x = false) ∧ ∃ t, e = .returned (.tuple #[.string t, .int .i64 0]) ∧ bytes t = put l))
def QRel (w : World) (l : List Ent) (k : Nat) (s : Value) (wr : World) : Prop := ∃ t, s = .string t ∧ bytes t = put (l.take k) ∧ t.size ≤ k * 30000 ∧ (∀ x ∈ l.take k, bad x = false) ∧ Below w.heap.size w wr
/-- Entries that a call can put. -/
structure PutOk (l : List Ent) : Prop where
  len : l.length ≤ 1000
  args : ∀ e ∈ l, e.args.length ≤ 1000 ∧ ∀ n ∈ e.args, U64 n
theorem digits_le (n : Int) : (digits n).length ≤ 20 := digF_len 20 _
set_option maxRecDepth 100000 in
set_option maxHeartbeats 4000000 in
theorem put_any {v : Value} {l : List Ent} (w : World) (h : RLoose w v l) (hok : PutOk l) : Calls Tryd.prog 10 #[v] w (PutPost w l) := by
  have hL := hok.len
  have HK := Lib.hid hok; clear hok
  rcases h with ⟨rfl, aa, cap, rfl⟩ | ⟨h0, g, o, cap, rfl, hcap, hmax, hg, hc⟩
  · go_enter Tryd.func10, Tryd.ntmps10
    go_wp2_with fail
    refine wp_loop_rounds 1 ?_
    rw [rounds_succ]
    go_wp2_with fail
    go_ret2
    exact ⟨Below.refl _ _, .inr ⟨fun x hx => by simp at hx, _, rfl, rfl⟩⟩
  · have HC := Lib.hid hc; clear hc
    unfold maxLen at hmax
    go_enter Tryd.func10, Tryd.ntmps10
    go_wp2_with fail
    go_slots
    go_loopw [4, 5] (fun s i wr => ∃ k : Nat, k ≤ l.length ∧ i = .int .i64 k ∧ QRel w l k s wr) (fun _ i _ => l.length - (intOf i).toNat)
    case atStart => exact ⟨0, Nat.zero_le _, rfl, _, rfl, rfl, (by show (0 : Nat) ≤ _; omega), fun x hx => by simp at hx, Below.refl _ _⟩
    case round =>
      obtain ⟨k, hk, rfl, t, rfl, ht, hts, hbad, hbr⟩ := hrel
      have HT := Lib.hid ht; have HG := Lib.hid hbad
      clear ht hbad
      by_cases hlt : k < l.length
      · obtain ⟨av, d0, d1, d2, _, hav⟩ := HC.out k hlt
        have tt : ∀ j, wr.cell? ⟨g, j, none⟩ = w.cell? ⟨g, j, none⟩ := fun j => hbr.cell (p := ⟨g, j, none⟩) hg
        rw [← tt] at d0 d1 d2
        have HAV := Lib.hid (hav.below hbr)
        obtain ⟨aav, cav, rfl⟩ : ∃ a c, av = .slice a l[k].args.length c := by
          rcases hav with ⟨e, a, c, rfl⟩ | ⟨_, b, o, c, rfl, _⟩
          · rw [e]; exact ⟨_, _, rfl⟩
          · exact ⟨_, _, rfl⟩
        have hargs := HK.out.args l[k] (List.getElem_mem hlt)
        have hal := hargs.1
        have HAR := Lib.hid hargs.2
        clear tt hav hargs
        have hi1 : (0 : Int) ≤ (k : Int) := by omega
        have hi2 : (k : Int) < (l.length : Int) := by omega
        cases hokb : l[k].ok with
        | false =>
          have HB : Hid (bad l[k] = true) := by unfold Hid bad; rw [hokb]; rfl
          rw [hokb] at d2
          clear hokb
          go_wp2_with fail
          go_ret2
          exact ⟨hbr, .inl ⟨⟨l[k], List.getElem_mem hlt, HB.out⟩, rfl⟩⟩
        | true =>
          rw [hokb] at d2
          by_cases c1 : l[k].op < 0
          · have HB : Hid (bad l[k] = true) := by unfold Hid bad; simp [c1]
            clear hokb
            go_wp2_with fail
            go_ret2
            exact ⟨hbr, .inl ⟨⟨l[k], List.getElem_mem hlt, HB.out⟩, rfl⟩⟩
          · by_cases c2 : 1114111 < l[k].op
            · have HB : Hid (bad l[k] = true) := by unfold Hid bad; simp [c2]
              clear hokb
              go_wp2_with fail
              go_ret2
              exact ⟨hbr, .inl ⟨⟨l[k], List.getElem_mem hlt, HB.out⟩, rfl⟩⟩
            · by_cases c3 : 55296 ≤ l[k].op ∧ l[k].op ≤ 57343
              · obtain ⟨c3a, c3b⟩ := c3
                have HB : Hid (bad l[k] = true) := by unfold Hid bad; simp [c3a, c3b]
                clear hokb
                go_wp2_with fail
                go_ret2
                exact ⟨hbr, .inl ⟨⟨l[k], List.getElem_mem hlt, HB.out⟩, rfl⟩⟩
              · cases c4 : (l[k].op == 65533) with
                | true =>
                  have HB : Hid (bad l[k] = true) := by unfold Hid bad; rw [c4]; simp
                  have c5 : 57343 < l[k].op := by have : l[k].op = 65533 := by simpa using c4
                                                  omega
                  clear hokb c3
                  go_wp2_with fail
                  go_ret2
                  exact ⟨hbr, .inl ⟨⟨l[k], List.getElem_mem hlt, HB.out⟩, rfl⟩⟩
                | false =>
                  have c3' : l[k].op < 55296 ∨ 57343 < l[k].op := by omega
                  have HOKB := Lib.hid hokb
                  clear hokb c3
                  rcases c3' with c3' | c3'
                  all_goals
                    go_wp2_with fail
                    refine (blank_any l[k].op wr).mono ?_
                    rintro e w2 ⟨he, rfl⟩
                    cases hbl : gl.blank l[k].op with
                    | true =>
                      rw [hbl] at he
                      subst he
                      have HB : Hid (bad l[k] = true) := by unfold Hid bad; rw [hbl]; simp
                      clear hbl
                      go_wp2_with fail
                      go_ret2
                      exact ⟨hbr, .inl ⟨⟨l[k], List.getElem_mem hlt, HB.out⟩, rfl⟩⟩
                    | false =>
                      rw [hbl] at he
                      subst he
                      have HBL := Lib.hid hbl
                      clear hbl
                      go_wp2_with fail
                      refine (numb_any l[k].op wr).mono ?_
                      rintro e w2 ⟨he, rfl⟩
                      cases hnb : numb l[k].op with
                      | true =>
                        rw [hnb] at he
                        subst he
                        have HB : Hid (bad l[k] = true) := by unfold Hid bad; rw [hnb]; simp
                        clear hnb
                        go_wp2_with fail
                        go_ret2
                        exact ⟨hbr, .inl ⟨⟨l[k], List.getElem_mem hlt, HB.out⟩, rfl⟩⟩
                      | false =>
                        rw [hnb] at he
                        subst he
                        have HBF : Hid (bad l[k] = false) := by
                          unfold Hid bad
                          rw [hnb, HBL.out, c4, HOKB.out]
                          simp
                          omega
                        clear hnb
                        go_wp2_with fail
                        refine (utf8_any l[k].op (by omega) (by omega) wr).mono ?_
                        rintro e w3 ⟨hb3, tu, rfl, hu⟩
                        have hbr3 : Below w.heap.size w w3 := hbr.trans (hb3.mono hbr.size)
                        have htu : tu.size ≤ 4 := by
                          have h1 := congrArg List.length hu
                          rw [bytes_len] at h1
                          have h2 := utf8_le l[k].op
                          omega
                        have e1 := (hb3.cell (p := ⟨g, o + k * 4 + 1, none⟩) (Nat.lt_of_lt_of_le hg hbr.size)).trans d1
                        have HAV3 := Lib.hid (HAV.out.below hb3)
                        clear d0 d1 d2
                        have HU : Hid (bytes (t ++ tu) = put (l.take k) ++ utf8 l[k].op) := by unfold Hid; rw [bytes_app, HT.out, hu]
                        have hsz : (t ++ tu).size ≤ k * 30000 + 4 := by simp; omega
                        obtain ⟨t1, ht1⟩ : ∃ t1, t ++ tu = t1 := ⟨_, rfl⟩
                        rw [ht1] at HU hsz
                        clear hu hb3
                        go_wp2_with fail
                        go_loopw [4, 7] (fun s j wq => ∃ (j' : Nat) (t' : ByteArray), j' ≤ l[k].args.length ∧ j = .int .i64 j' ∧ s = .string t' ∧ Hid (bytes t' = put (l.take k) ++ utf8 l[k].op ++ putA (l[k].args.take j')) ∧ t'.size ≤ k * 30000 + 4 + j' * 21 ∧ Below w3.heap.size w3 wq) (fun _ j _ => l[k].args.length - (intOf j).toNat)
                        case atStart => exact ⟨0, t1, Nat.zero_le _, rfl, rfl, by unfold Hid; rw [HU.out]; simp [putA], by omega, Below.refl _ _⟩
                        case round =>
                          obtain ⟨j, t2, hj, rfl, rfl, HT2, hs2, hbq⟩ := hrel
                          have e2 := (hbq.cell (p := ⟨g, o + k * 4 + 1, none⟩) (Nat.lt_of_lt_of_le hg hbr3.size)).trans e1
                          by_cases hjl : j < l[k].args.length
                          · obtain ⟨ga, oa, rfl, hga, hca⟩ : ∃ b off, aav = some ⟨b, off, none⟩ ∧ b < w3.heap.size ∧ ∀ i, i < l[k].args.length → w3.cell? ⟨b, off + i, none⟩ = some (.int .u64 (nth l[k].args i)) := by
                              rcases HAV3.out with ⟨e, _⟩ | ⟨_, b, off, cap', hv, _, _, hb, hc⟩
                              · rw [e] at hjl; simp at hjl
                              · simp only [Value.slice.injEq] at hv
                                exact ⟨b, off, hv.1, hb, hc⟩
                            have e3 := (hbq.cell (p := ⟨ga, oa + j, none⟩) hga).trans (hca j hjl)
                            clear hca
                            have hnth : nth l[k].args j = l[k].args[j] := by simp [nth, List.getD, hjl]
                            rw [hnth] at e3
                            have hu64 := HAR.out l[k].args[j] (List.getElem_mem hjl)
                            obtain ⟨x, hx⟩ : ∃ x, l[k].args[j] = x := ⟨_, rfl⟩
                            rw [hx] at e3 hu64
                            have HX : Hid (putA (l[k].args.take (j + 1)) = putA (l[k].args.take j) ++ (if l[k].args.take j = [] then [] else [44]) ++ digits x) := by
                              unfold Hid
                              rw [List.take_succ_eq_append_getElem hjl, hx, putA_snoc]
                            obtain ⟨hu0, hu1⟩ := hu64
                            clear hnth hx
                            have hj1 : (0 : Int) ≤ (j : Int) := by omega
                            have hj2 : (j : Int) < (l[k].args.length : Int) := by omega
                            by_cases hj0 : 0 < j
                            · have HY : Hid (putA (l[k].args.take (j + 1)) = putA (l[k].args.take j) ++ [44] ++ digits x) := by
                                unfold Hid
                                rw [HX.out, if_neg]
                                intro e
                                have := congrArg List.length e
                                rw [List.length_take, List.length_nil] at this
                                omega
                              have hj3 : (0 : Int) < (j : Int) := by omega
                              go_wp2_with fail
                              refine (digits_any x hu0 hu1 wr).mono ?_
                              rintro e w5 ⟨hb5, td, rfl, hd⟩
                              have hds : td.size ≤ 20 := by
                                have h1 := congrArg List.length hd
                                rw [bytes_len] at h1
                                have h2 := digits_le x
                                omega
                              have HD := Lib.hid hd; clear hd
                              have hc1 : (ByteArray.mk #[44]).size = 1 := rfl
                              have hc2 : (t2 ++ ByteArray.mk #[44]).size = t2.size + 1 := by simp; rfl
                              go_wp2_with fail
                              go_roundw
                              case rel => exact ⟨j + 1, _, by omega, by go_num, rfl, by
                                unfold Hid
                                rw [bytes_app, bytes_app, HT2.out, HD.out, HY.out]
                                simp [bytes], by simp; omega, hbq.trans (hb5.mono hbq.size)⟩
                              case measure => simp [intOf]; omega
                            · have HY : Hid (putA (l[k].args.take (j + 1)) = putA (l[k].args.take j) ++ digits x) := by
                                unfold Hid
                                rw [HX.out, if_pos (by rw [show j = 0 by omega]; rfl), List.append_nil]
                              have hj3 : (j : Int) ≤ 0 := by omega
                              go_wp2_with fail
                              refine (digits_any x hu0 hu1 wr).mono ?_
                              rintro e w5 ⟨hb5, td, rfl, hd⟩
                              have hds : td.size ≤ 20 := by
                                have h1 := congrArg List.length hd
                                rw [bytes_len] at h1
                                have h2 := digits_le x
                                omega
                              have HD := Lib.hid hd; clear hd
                              go_wp2_with fail
                              go_roundw
                              case rel => exact ⟨j + 1, _, by omega, by go_num, rfl, by
                                unfold Hid
                                rw [bytes_app, HT2.out, HD.out, HY.out]
                                simp, by simp; omega, hbq.trans (hb5.mono hbq.size)⟩
                              case measure => simp [intOf]; omega
                          · obtain rfl : j = l[k].args.length := by omega
                            have HE : Hid (bytes t2 = put (l.take (k + 1))) := by
                              unfold Hid
                              rw [HT2.out, List.take_length, List.take_succ_eq_append_getElem hlt]
                              unfold put
                              rw [List.flatMap_append]
                              simp [put1]
                            have HE2 : Hid (∀ x ∈ l.take (k + 1), bad x = false) := by
                              intro x hx
                              rw [List.take_succ_eq_append_getElem hlt] at hx
                              rcases List.mem_append.1 hx with hx | hx
                              · exact HG.out x hx
                              · simp at hx
                                subst hx
                                exact HBF.out
                            have hbr6 : Below w.heap.size w wr := hbr3.trans (hbq.mono hbr3.size)
                            go_wp2_with fail
                            go_roundw
                            case rel => exact ⟨k + 1, by omega, by go_num, t2, rfl, HE.out, by omega, HE2.out, hbr6⟩
                            case measure => simp [intOf]; omega
      · obtain rfl : k = l.length := by omega
        have HF : Hid (bytes t = put l) := by unfold Hid; rw [HT.out, List.take_length]
        have HF2 : Hid (∀ x ∈ l, bad x = false) := fun x hx => HG.out x (by rw [List.take_length]; exact hx)
        go_wp2_with fail
        go_ret2
        exact ⟨hbr, .inr ⟨HF2.out, t, rfl, HF.out⟩⟩
end Go.Proofs.YtolampkhohahlaaDoor.g3
