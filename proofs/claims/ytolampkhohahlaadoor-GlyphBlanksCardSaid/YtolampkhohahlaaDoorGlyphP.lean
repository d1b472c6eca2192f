/- Contracts of package hatstandref3, on: Parse, over this seat's program. -/
import Derived.Test.YtolampkhohahlaaDoorGlyphA
namespace Go.Proofs.YtolampkhohahlaaDoor.g3
open Go.ChangeShapes Go.WideShapes Go.ChangeAt Go.RowKit frame lift gl own
set_option linter.unusedVariables false
def PRel (w : World) (s : ByteArray) (i : Nat) (v : Value) (wr : World) : Prop := ∃ ps : List (Value × Ent), ps.length ≤ i ∧ OwnEnts wr w.heap.size v ps ∧ Below w.heap.size w wr ∧ parseAt 0 (bytes s) = ps.map (·.2) ++ parseAt i ((bytes s).drop i)
def ParsePost (w : World) (L : Bs) (e : Ending) (w' : World) : Prop := Below w.heap.size w w' ∧ ∃ v ps, e = .returned v ∧ OwnEnts w' w.heap.size v ps ∧ ps.map (·.2) = parse L
set_option maxRecDepth 100000 in
set_option maxHeartbeats 4000000 in
theorem parse_any {s : ByteArray} (hs : s.size ≤ 1000000) (w : World) : Calls Tryd.prog 14 #[.string s] w (ParsePost w (bytes s)) := by
  have hl := bytes_len s
  have HL := Lib.hid hl; clear hl
  obtain ⟨i0, hi, hz0, hz1, hz2⟩ := info_parts infoE
  have J1 := Lib.hid hi; have J2 := Lib.hid hz0; have J3 := Lib.hid hz1; have J4 := Lib.hid hz2; clear hi hz0 hz1 hz2
  go_enter Tryd.func14, Tryd.ntmps14
  go_wp2_with fail
  go_loopw [3, 4] (fun v i wr => ∃ k : Nat, k ≤ s.size ∧ i = .int .i64 k ∧ PRel w s k v wr) (fun _ i _ => s.size - (intOf i).toNat)
  case atStart => exact ⟨0, Nat.zero_le _, rfl, [], Nat.le_refl _, ⟨World.ownsRow_nil _ _ _ _, fun p hp => by simp at hp⟩, Below.refl _ _, by simp⟩
  case round =>
    obtain ⟨i, hik, rfl, ps, hps, hown, hbr, hpar⟩ := hrel
    have HO := Lib.hid hown; have HP := Lib.hid hpar
    clear hown hpar
    by_cases hlt : i < s.size
    · have hi1 : (0 : Int) ≤ (i : Int) := by omega
      have hi2 : (i : Int) ≤ (s.size : Int) := by omega
      have hD : bytes (s.extract i s.size) = (bytes s).drop i := by rw [bytes_extract, List.take_of_length_le (by rw [HL.out]; omega)]
      have hsz : (s.extract i s.size).size = s.size - i := by simp
      have hR := rune_any (s := s.extract i s.size) (by rw [hsz]; unfold maxLen; omega) (by rw [hsz]; omega) wr
      unfold RuneSaid at hR
      rw [hD] at hR
      have hne : (bytes s).drop i ≠ [] := fun e => by
        have := congrArg List.length e
        rw [List.length_drop, HL.out, List.length_nil] at this
        omega
      have hn1 := rune_pos ((bytes s).drop i)
      have hn2 := rune_le ((bytes s).drop i) (List.length_pos_iff.2 hne)
      rw [List.length_drop, HL.out] at hn2
      obtain ⟨r, hr⟩ : ∃ r, (rune ((bytes s).drop i)).1 = r := ⟨_, rfl⟩
      obtain ⟨n, hn⟩ : ∃ n, (rune ((bytes s).drop i)).2 = n := ⟨_, rfl⟩
      have hpb := parseAt_blank i _ hne
      have hpe := parseAt_entry i _ hne
      rw [hr, hn] at hR hpb hpe
      rw [hn] at hn1 hn2
      have HRu := Lib.hid hR; have HB := Lib.hid hpb; have HEn := Lib.hid hpe
      clear hR hpb hpe hr hn hne hD hsz
      go_wp2_with fail
      refine HRu.out.mono ?_
      rintro e w1 ⟨rfl, hb1⟩
      have hbr1 : Below w.heap.size w w1 := hbr.trans (hb1.mono hbr.size)
      have HO1 := Lib.hid (HO.out.below hb1)
      clear hb1
      go_wp2_with fail
      refine (blank_any r w1).mono ?_
      rintro e w2 ⟨he, rfl⟩
      cases hbl : gl.blank r with
      | true =>
        rw [hbl] at he
        subst he
        have HQ : Hid (parseAt 0 (bytes s) = ps.map (·.2) ++ parseAt (i + n) ((bytes s).drop (i + n))) := by
          unfold Hid
          rw [HP.out, HB.out hbl, List.drop_drop]
        clear hbl
        go_wp2_with fail
        go_roundw
        case rel => exact ⟨i + n, by omega, by go_num, ps, by omega, HO1.out, hbr1, HQ.out⟩
        case measure => simp [intOf]; omega
      | false =>
        rw [hbl] at he
        subst he
        have HQ := Lib.hid (HEn.out hbl)
        clear hbl
        go_wp2_with fail
        go_loop [4] (fun x => ∃ j : Nat, i + n ≤ j ∧ j ≤ s.size ∧ x = .int .i64 j ∧ Hid (nums ((bytes s).drop (i + n)) = ((bytes s).take j).drop (i + n) ++ nums ((bytes s).drop j))) (fun x => s.size - (intOf x).toNat)
        case atStart => exact ⟨i + n, Nat.le_refl _, by omega, by go_num, by
          unfold Hid
          rw [show ((bytes s).take (i + n)).drop (i + n) = [] from List.drop_eq_nil_of_le (by rw [List.length_take]; omega)]
          rfl⟩
        case round =>
          obtain ⟨j, hj1, hj2, rfl, HJ⟩ := hrel
          by_cases hjs : j < s.size
          · refine ?_
            have hz0 : (0 : Int) ≤ (j : Int) := by omega
            have hz1 : (j : Int) < (s.size : Int) := by omega
            obtain ⟨hby0, hby1⟩ := byte_bd s j hjs
            go_wp2_with fail
            ((with_reducible refine (numb_any (s[j].toNat : Int) w1).mono ?_))
            rintro e w4 ⟨he, rfl⟩
            cases hnb : numb (s[j].toNat : Int) with
            | true =>
              rw [hnb] at he
              subst he
              have HJ2 : Hid (nums ((bytes s).drop (i + n)) = ((bytes s).take (j + 1)).drop (i + n) ++ nums ((bytes s).drop (j + 1))) := by
                unfold Hid
                rw [HJ.out, drop_cons hjs, take_snoc hjs hj1]
                unfold nums
                rw [List.takeWhile_cons, hnb]
                simp
              clear hnb
              go_wp2_with fail
              go_round
              case rel => exact ⟨j + 1, by omega, by omega, by go_num, HJ2⟩
              case measure => simp [intOf]; omega
            | false =>
              rw [hnb] at he
              subst he
              have HZ : Hid (nums ((bytes s).drop j) = []) := by
                unfold Hid nums
                rw [drop_cons hjs, List.takeWhile_cons, hnb]
                rfl
              clear hnb
              have hK : nums ((bytes s).drop (i + n)) = bytes (s.extract (i + n) j) := by
                have h := HJ.out
                rw [HZ.out, List.append_nil] at h
                rw [h, bytes_extract]
              have hKl : (nums ((bytes s).drop (i + n))).length = j - (i + n) := by
                rw [hK, bytes_len]
                simp
                omega
              have HQ2 : Hid (parseAt i ((bytes s).drop i) = entOf r (args (bytes (s.extract (i + n) j))) i :: parseAt j ((bytes s).drop j)) := by
                have h := HQ.out
                rw [List.drop_drop] at h
                unfold Hid
                rw [h, List.drop_drop, ← hK, hKl]
                congr 2
                · omega
                · congr 1
                  omega
              clear hK hKl
              have hi3 : (0 : Int) ≤ (i : Int) + (n : Int) := by omega
              have hi4 : (i : Int) + (n : Int) ≤ (j : Int) := by omega
              have hi5 : (j : Int) ≤ (s.size : Int) := by omega
              go_wp2_with fail
              refine (args_any (s := s.extract (i + n) j) (by simp; omega) w1).mono ?_
              rintro e w5 ⟨hb5, ⟨ha, rfl⟩ | ⟨al, av, ha, rfl, hav⟩⟩
              · have hbr5 : Below w.heap.size w w5 := hbr1.trans (hb5.mono hbr1.size)
                have HX := Lib.hid (HO1.out.below hb5)
                have HA := Lib.hid ha
                clear hb5 ha
                go_wp2_with fail
                refine (numb_any r w5).mono ?_
                rintro e w6 ⟨he, rfl⟩
                cases hnr : numb r with
                | true =>
                  rw [hnr] at he
                  subst he
                  have HE2 : Hid (parseAt 0 (bytes s) = (ps ++ [(Value.slice none 0 0, (⟨r, [], false, i⟩ : Ent))]).map (·.2) ++ parseAt j ((bytes s).drop j)) := by
                    unfold Hid
                    rw [HP.out, HQ2.out]
                    unfold entOf
                    rw [hnr]
                    simp
                  clear hnr
                  go_wp2_with (at_builtin; refine wpList_append_lies _ rfl _ _ 31 rfl w.heap.size 49 i0 _ 4 48 Tryd.underlying31 J1.out J2.out J3.out J4.out rfl (by decide) _ ps.length _ rfl (HX.out.1.alloc _) ⟨w5.heap.size, 0, none⟩ 1 1 (encE (Value.slice none 0 0, ⟨r, [], false, i⟩)) rfl rfl (newsE w5 _ rfl) (encE_one _ ⟨_, _, _, rfl⟩) (by decide) ?c3 ?c4 ?c5 (w5.heap.size + 1) (by simp) ?_)
                  case c3 => simp only [maxLen]; omega
                  case c4 => omega
                  case c5 => have := hbr5.size; simp; omega
                  intro g9 cap9 w6 hown6 hgrow6 hat6 hlt6
                  have HO6 := Lib.hid (ents_push HX.out (own_nil _ _ _ _) hown6 hgrow6)
                  have hbr6 : Below w.heap.size w w6 := (hbr5.alloc hbr5.size _).grown hgrow6 (by have := hbr5.size; simp; omega) (fun g hg => (World.ownsRow.lt HX.out.1 g hg).1)
                  clear hown6 hgrow6 hat6
                  go_wp2_with fail
                  go_roundw
                  case rel => exact ⟨j, hj2, rfl, ps ++ [(Value.slice none 0 0, ⟨r, [], false, i⟩)], by rw [List.length_append]; simp; omega, HO6.out, hbr6, HE2.out⟩
                  case measure => simp [intOf]; omega
                | false =>
                  rw [hnr] at he
                  subst he
                  have HE2 : Hid (parseAt 0 (bytes s) = (ps ++ [(Value.slice none 0 0, (⟨r, [], false, i⟩ : Ent))]).map (·.2) ++ parseAt j ((bytes s).drop j)) := by
                    unfold Hid
                    rw [HP.out, HQ2.out]
                    unfold entOf
                    rw [hnr, HA.out]
                    simp
                  clear hnr
                  go_wp2_with (at_builtin; refine wpList_append_lies _ rfl _ _ 31 rfl w.heap.size 49 i0 _ 4 48 Tryd.underlying31 J1.out J2.out J3.out J4.out rfl (by decide) _ ps.length _ rfl (HX.out.1.alloc _) ⟨w5.heap.size, 0, none⟩ 1 1 (encE (Value.slice none 0 0, ⟨r, [], false, i⟩)) rfl rfl (newsE w5 _ rfl) (encE_one _ ⟨_, _, _, rfl⟩) (by decide) ?c3 ?c4 ?c5 (w5.heap.size + 1) (by simp) ?_)
                  case c3 => simp only [maxLen]; omega
                  case c4 => omega
                  case c5 => have := hbr5.size; simp; omega
                  intro g9 cap9 w6 hown6 hgrow6 hat6 hlt6
                  have HO6 := Lib.hid (ents_push HX.out (own_nil _ _ _ _) hown6 hgrow6)
                  have hbr6 : Below w.heap.size w w6 := (hbr5.alloc hbr5.size _).grown hgrow6 (by have := hbr5.size; simp; omega) (fun g hg => (World.ownsRow.lt HX.out.1 g hg).1)
                  clear hown6 hgrow6 hat6
                  go_wp2_with fail
                  go_roundw
                  case rel => exact ⟨j, hj2, rfl, ps ++ [(Value.slice none 0 0, ⟨r, [], false, i⟩)], by rw [List.length_append]; simp; omega, HO6.out, hbr6, HE2.out⟩
                  case measure => simp [intOf]; omega
              · have hbr5 : Below w.heap.size w w5 := hbr1.trans (hb5.mono hbr1.size)
                have HX := Lib.hid (HO1.out.below hb5)
                have HA := Lib.hid ha
                have HV := Lib.hid (own_mono hav hbr1.size)
                obtain ⟨a7, n7, c7, rfl⟩ := own_form hav
                clear hb5 ha hav
                go_wp2_with fail
                refine (numb_any r w5).mono ?_
                rintro e w6 ⟨he, rfl⟩
                cases hnr : numb r with
                | true =>
                  rw [hnr] at he
                  subst he
                  have HE2 : Hid (parseAt 0 (bytes s) = (ps ++ [(Value.slice none 0 0, (⟨r, [], false, i⟩ : Ent))]).map (·.2) ++ parseAt j ((bytes s).drop j)) := by
                    unfold Hid
                    rw [HP.out, HQ2.out]
                    unfold entOf
                    rw [hnr]
                    simp
                  clear hnr
                  go_wp2_with (at_builtin; refine wpList_append_lies _ rfl _ _ 31 rfl w.heap.size 49 i0 _ 4 48 Tryd.underlying31 J1.out J2.out J3.out J4.out rfl (by decide) _ ps.length _ rfl (HX.out.1.alloc _) ⟨w5.heap.size, 0, none⟩ 1 1 (encE (Value.slice none 0 0, ⟨r, [], false, i⟩)) rfl rfl (newsE w5 _ rfl) (encE_one _ ⟨_, _, _, rfl⟩) (by decide) ?c3 ?c4 ?c5 (w5.heap.size + 1) (by simp) ?_)
                  case c3 => simp only [maxLen]; omega
                  case c4 => omega
                  case c5 => have := hbr5.size; simp; omega
                  intro g9 cap9 w6 hown6 hgrow6 hat6 hlt6
                  have HO6 := Lib.hid (ents_push HX.out (own_nil _ _ _ _) hown6 hgrow6)
                  have hbr6 : Below w.heap.size w w6 := (hbr5.alloc hbr5.size _).grown hgrow6 (by have := hbr5.size; simp; omega) (fun g hg => (World.ownsRow.lt HX.out.1 g hg).1)
                  clear hown6 hgrow6 hat6
                  go_wp2_with fail
                  go_roundw
                  case rel => exact ⟨j, hj2, rfl, ps ++ [(Value.slice none 0 0, ⟨r, [], false, i⟩)], by rw [List.length_append]; simp; omega, HO6.out, hbr6, HE2.out⟩
                  case measure => simp [intOf]; omega
                | false =>
                  rw [hnr] at he
                  subst he
                  have HE2 : Hid (parseAt 0 (bytes s) = (ps ++ [(Value.slice a7 n7 c7, (⟨r, al, true, i⟩ : Ent))]).map (·.2) ++ parseAt j ((bytes s).drop j)) := by
                    unfold Hid
                    rw [HP.out, HQ2.out]
                    unfold entOf
                    rw [hnr, HA.out]
                    simp
                  clear hnr
                  go_wp2_with (at_builtin; refine wpList_append_lies _ rfl _ _ 31 rfl w.heap.size 49 i0 _ 4 48 Tryd.underlying31 J1.out J2.out J3.out J4.out rfl (by decide) _ ps.length _ rfl (HX.out.1.alloc _) ⟨w5.heap.size, 0, none⟩ 1 1 (encE (Value.slice a7 n7 c7, ⟨r, al, true, i⟩)) rfl rfl (newsE w5 _ rfl) (encE_one _ (own_form HV.out)) (by decide) ?c3 ?c4 ?c5 (w5.heap.size + 1) (by simp) ?_)
                  case c3 => simp only [maxLen]; omega
                  case c4 => omega
                  case c5 => have := hbr5.size; simp; omega
                  intro g9 cap9 w6 hown6 hgrow6 hat6 hlt6
                  have HO6 := Lib.hid (ents_push HX.out HV.out hown6 hgrow6)
                  have hbr6 : Below w.heap.size w w6 := (hbr5.alloc hbr5.size _).grown hgrow6 (by have := hbr5.size; simp; omega) (fun g hg => (World.ownsRow.lt HX.out.1 g hg).1)
                  clear hown6 hgrow6 hat6
                  go_wp2_with fail
                  go_roundw
                  case rel => exact ⟨j, hj2, rfl, ps ++ [(Value.slice a7 n7 c7, ⟨r, al, true, i⟩)], by rw [List.length_append]; simp; omega, HO6.out, hbr6, HE2.out⟩
                  case measure => simp [intOf]; omega
          · have HZ : Hid (nums ((bytes s).drop j) = []) := by
              unfold Hid
              rw [show (bytes s).drop j = [] from List.drop_eq_nil_of_le (by rw [HL.out]; omega)]
              rfl
            have hz1 : (s.size : Int) ≤ (j : Int) := by omega
            have hK : nums ((bytes s).drop (i + n)) = bytes (s.extract (i + n) j) := by
              have h := HJ.out
              rw [HZ.out, List.append_nil] at h
              rw [h, bytes_extract]
            have hKl : (nums ((bytes s).drop (i + n))).length = j - (i + n) := by
              rw [hK, bytes_len]
              simp
              omega
            have HQ2 : Hid (parseAt i ((bytes s).drop i) = entOf r (args (bytes (s.extract (i + n) j))) i :: parseAt j ((bytes s).drop j)) := by
              have h := HQ.out
              rw [List.drop_drop] at h
              unfold Hid
              rw [h, List.drop_drop, ← hK, hKl]
              congr 2
              · omega
              · congr 1
                omega
            clear hK hKl
            have hi3 : (0 : Int) ≤ (i : Int) + (n : Int) := by omega
            have hi4 : (i : Int) + (n : Int) ≤ (j : Int) := by omega
            have hi5 : (j : Int) ≤ (s.size : Int) := by omega
            go_wp2_with fail
            refine (args_any (s := s.extract (i + n) j) (by simp; omega) w1).mono ?_
            rintro e w5 ⟨hb5, ⟨ha, rfl⟩ | ⟨al, av, ha, rfl, hav⟩⟩
            · have hbr5 : Below w.heap.size w w5 := hbr1.trans (hb5.mono hbr1.size)
              have HX := Lib.hid (HO1.out.below hb5)
              have HA := Lib.hid ha
              clear hb5 ha
              go_wp2_with fail
              refine (numb_any r w5).mono ?_
              rintro e w6 ⟨he, rfl⟩
              cases hnr : numb r with
              | true =>
                rw [hnr] at he
                subst he
                have HE2 : Hid (parseAt 0 (bytes s) = (ps ++ [(Value.slice none 0 0, (⟨r, [], false, i⟩ : Ent))]).map (·.2) ++ parseAt j ((bytes s).drop j)) := by
                  unfold Hid
                  rw [HP.out, HQ2.out]
                  unfold entOf
                  rw [hnr]
                  simp
                clear hnr
                go_wp2_with (at_builtin; refine wpList_append_lies _ rfl _ _ 31 rfl w.heap.size 49 i0 _ 4 48 Tryd.underlying31 J1.out J2.out J3.out J4.out rfl (by decide) _ ps.length _ rfl (HX.out.1.alloc _) ⟨w5.heap.size, 0, none⟩ 1 1 (encE (Value.slice none 0 0, ⟨r, [], false, i⟩)) rfl rfl (newsE w5 _ rfl) (encE_one _ ⟨_, _, _, rfl⟩) (by decide) ?c3 ?c4 ?c5 (w5.heap.size + 1) (by simp) ?_)
                case c3 => simp only [maxLen]; omega
                case c4 => omega
                case c5 => have := hbr5.size; simp; omega
                intro g9 cap9 w6 hown6 hgrow6 hat6 hlt6
                have HO6 := Lib.hid (ents_push HX.out (own_nil _ _ _ _) hown6 hgrow6)
                have hbr6 : Below w.heap.size w w6 := (hbr5.alloc hbr5.size _).grown hgrow6 (by have := hbr5.size; simp; omega) (fun g hg => (World.ownsRow.lt HX.out.1 g hg).1)
                clear hown6 hgrow6 hat6
                go_wp2_with fail
                go_roundw
                case rel => exact ⟨j, hj2, rfl, ps ++ [(Value.slice none 0 0, ⟨r, [], false, i⟩)], by rw [List.length_append]; simp; omega, HO6.out, hbr6, HE2.out⟩
                case measure => simp [intOf]; omega
              | false =>
                rw [hnr] at he
                subst he
                have HE2 : Hid (parseAt 0 (bytes s) = (ps ++ [(Value.slice none 0 0, (⟨r, [], false, i⟩ : Ent))]).map (·.2) ++ parseAt j ((bytes s).drop j)) := by
                  unfold Hid
                  rw [HP.out, HQ2.out]
                  unfold entOf
                  rw [hnr, HA.out]
                  simp
                clear hnr
                go_wp2_with (at_builtin; refine wpList_append_lies _ rfl _ _ 31 rfl w.heap.size 49 i0 _ 4 48 Tryd.underlying31 J1.out J2.out J3.out J4.out rfl (by decide) _ ps.length _ rfl (HX.out.1.alloc _) ⟨w5.heap.size, 0, none⟩ 1 1 (encE (Value.slice none 0 0, ⟨r, [], false, i⟩)) rfl rfl (newsE w5 _ rfl) (encE_one _ ⟨_, _, _, rfl⟩) (by decide) ?c3 ?c4 ?c5 (w5.heap.size + 1) (by simp) ?_)
                case c3 => simp only [maxLen]; omega
                case c4 => omega
                case c5 => have := hbr5.size; simp; omega
                intro g9 cap9 w6 hown6 hgrow6 hat6 hlt6
                have HO6 := Lib.hid (ents_push HX.out (own_nil _ _ _ _) hown6 hgrow6)
                have hbr6 : Below w.heap.size w w6 := (hbr5.alloc hbr5.size _).grown hgrow6 (by have := hbr5.size; simp; omega) (fun g hg => (World.ownsRow.lt HX.out.1 g hg).1)
                clear hown6 hgrow6 hat6
                go_wp2_with fail
                go_roundw
                case rel => exact ⟨j, hj2, rfl, ps ++ [(Value.slice none 0 0, ⟨r, [], false, i⟩)], by rw [List.length_append]; simp; omega, HO6.out, hbr6, HE2.out⟩
                case measure => simp [intOf]; omega
            · have hbr5 : Below w.heap.size w w5 := hbr1.trans (hb5.mono hbr1.size)
              have HX := Lib.hid (HO1.out.below hb5)
              have HA := Lib.hid ha
              have HV := Lib.hid (own_mono hav hbr1.size)
              obtain ⟨a7, n7, c7, rfl⟩ := own_form hav
              clear hb5 ha hav
              go_wp2_with fail
              refine (numb_any r w5).mono ?_
              rintro e w6 ⟨he, rfl⟩
              cases hnr : numb r with
              | true =>
                rw [hnr] at he
                subst he
                have HE2 : Hid (parseAt 0 (bytes s) = (ps ++ [(Value.slice none 0 0, (⟨r, [], false, i⟩ : Ent))]).map (·.2) ++ parseAt j ((bytes s).drop j)) := by
                  unfold Hid
                  rw [HP.out, HQ2.out]
                  unfold entOf
                  rw [hnr]
                  simp
                clear hnr
                go_wp2_with (at_builtin; refine wpList_append_lies _ rfl _ _ 31 rfl w.heap.size 49 i0 _ 4 48 Tryd.underlying31 J1.out J2.out J3.out J4.out rfl (by decide) _ ps.length _ rfl (HX.out.1.alloc _) ⟨w5.heap.size, 0, none⟩ 1 1 (encE (Value.slice none 0 0, ⟨r, [], false, i⟩)) rfl rfl (newsE w5 _ rfl) (encE_one _ ⟨_, _, _, rfl⟩) (by decide) ?c3 ?c4 ?c5 (w5.heap.size + 1) (by simp) ?_)
                case c3 => simp only [maxLen]; omega
                case c4 => omega
                case c5 => have := hbr5.size; simp; omega
                intro g9 cap9 w6 hown6 hgrow6 hat6 hlt6
                have HO6 := Lib.hid (ents_push HX.out (own_nil _ _ _ _) hown6 hgrow6)
                have hbr6 : Below w.heap.size w w6 := (hbr5.alloc hbr5.size _).grown hgrow6 (by have := hbr5.size; simp; omega) (fun g hg => (World.ownsRow.lt HX.out.1 g hg).1)
                clear hown6 hgrow6 hat6
                go_wp2_with fail
                go_roundw
                case rel => exact ⟨j, hj2, rfl, ps ++ [(Value.slice none 0 0, ⟨r, [], false, i⟩)], by rw [List.length_append]; simp; omega, HO6.out, hbr6, HE2.out⟩
                case measure => simp [intOf]; omega
              | false =>
                rw [hnr] at he
                subst he
                have HE2 : Hid (parseAt 0 (bytes s) = (ps ++ [(Value.slice a7 n7 c7, (⟨r, al, true, i⟩ : Ent))]).map (·.2) ++ parseAt j ((bytes s).drop j)) := by
                  unfold Hid
                  rw [HP.out, HQ2.out]
                  unfold entOf
                  rw [hnr, HA.out]
                  simp
                clear hnr
                go_wp2_with (at_builtin; refine wpList_append_lies _ rfl _ _ 31 rfl w.heap.size 49 i0 _ 4 48 Tryd.underlying31 J1.out J2.out J3.out J4.out rfl (by decide) _ ps.length _ rfl (HX.out.1.alloc _) ⟨w5.heap.size, 0, none⟩ 1 1 (encE (Value.slice a7 n7 c7, ⟨r, al, true, i⟩)) rfl rfl (newsE w5 _ rfl) (encE_one _ (own_form HV.out)) (by decide) ?c3 ?c4 ?c5 (w5.heap.size + 1) (by simp) ?_)
                case c3 => simp only [maxLen]; omega
                case c4 => omega
                case c5 => have := hbr5.size; simp; omega
                intro g9 cap9 w6 hown6 hgrow6 hat6 hlt6
                have HO6 := Lib.hid (ents_push HX.out HV.out hown6 hgrow6)
                have hbr6 : Below w.heap.size w w6 := (hbr5.alloc hbr5.size _).grown hgrow6 (by have := hbr5.size; simp; omega) (fun g hg => (World.ownsRow.lt HX.out.1 g hg).1)
                clear hown6 hgrow6 hat6
                go_wp2_with fail
                go_roundw
                case rel => exact ⟨j, hj2, rfl, ps ++ [(Value.slice a7 n7 c7, ⟨r, al, true, i⟩)], by rw [List.length_append]; simp; omega, HO6.out, hbr6, HE2.out⟩
                case measure => simp [intOf]; omega
    · obtain rfl : i = s.size := by omega
      have HF : Hid (ps.map (·.2) = parse (bytes s)) := by
        have h := HP.out
        rw [List.drop_eq_nil_of_le (by rw [HL.out]; omega), parseAt_nil, List.append_nil] at h
        exact h.symm
      go_wp2_with fail
      go_ret
      exact ⟨hbr, _, ps, rfl, HO.out, HF.out⟩
end Go.Proofs.YtolampkhohahlaaDoor.g3
