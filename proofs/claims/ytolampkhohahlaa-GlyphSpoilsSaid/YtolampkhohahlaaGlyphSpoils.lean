/- GlyphSpoils: of the entries of a text, each stands behind the one ahead, within the text, and is parsed alone as it is there: no condition. -/
import Derived.Test.YtolampkhohahlaaGlyphX
import Derived.Test.YtolampkhohahlaaGlyphO
import Derived.Deep.Cut
import Derived.SizedLaws
import Derived.ChangeMaps5
namespace Go.Proofs.Ytolampkhohahlaa.g3
open gl lift
def nxt (L : Bs) (l : List Ent) (i : Nat) : Nat := if h : i + 1 < l.length then l[i + 1].at_ else L.length
theorem sp_at (L : Bs) : ∀ (l : List Ent), Sp 0 L l → ∀ (i : Nat) (h : i < l.length), l[i].at_ < L.length ∧ l[i].at_ < nxt L l i ∧ nxt L l i ≤ L.length ∧ (l[i].ok = false → l[i].args = []) ∧ parse ((L.take (nxt L l i)).drop l[i].at_) = [{ l[i] with at_ := 0 }] := by
  intro l
  induction l with
  | nil => intro _ i h; simp at h
  | cons e l ih =>
    rintro ⟨h1, h2, h3, h4, h5, h6, h7⟩ i hi
    rw [Nat.zero_add] at h2 h3 h4 h6
    cases i with
    | zero =>
      have hn : next l L.length = nxt L (e :: l) 0 := by
        unfold nxt
        cases l with
        | nil => simp [next]
        | cons f l => simp [next]
      rw [hn] at h3 h4 h6
      refine ⟨h2, h3, h4, h5, ?_⟩
      rw [parse_is, List.drop_take]
      exact h6
    | succ i =>
      have hi' : i < l.length := by simpa using hi
      have hn : nxt L l i = nxt L (e :: l) (i + 1) := by
        unfold nxt
        simp
      have := ih h7 i hi'
      rw [hn] at this
      exact this
theorem spoils_at (s : ByteArray) (i : Nat) (h : i < (parse (bytes s)).length) : (parse (bytes s))[i].at_ < s.size ∧ (parse (bytes s))[i].at_ < nxt (bytes s) (parse (bytes s)) i ∧ nxt (bytes s) (parse (bytes s)) i ≤ s.size ∧ ((parse (bytes s))[i].ok = false → (parse (bytes s))[i].args = []) ∧
    parse (bytes (s.extract (parse (bytes s))[i].at_ (nxt (bytes s) (parse (bytes s)) i))) = [{ (parse (bytes s))[i] with at_ := 0 }] := by
  have hs : Sp 0 (bytes s) (parse (bytes s)) := spoils (bytes s).length (bytes s) 0 (Nat.le_refl _)
  have := sp_at (bytes s) _ hs i h
  rw [bytes_len] at this
  rw [bytes_extract]
  exact this
end Go.Proofs.Ytolampkhohahlaa.g3
namespace Go.Proofs.Ytolampkhohahlaa.glyphSpoils
open Go.ChangeShapes Go.WideShapes Go.ChangeAt Go.RowKit frame lift gl own g3
set_option linter.unusedVariables false
set_option maxRecDepth 100000 in
set_option maxHeartbeats 40000000 in
theorem walk (s : ByteArray) (w : World) (ws : s.size ≤ 140737488351232) : Calls Try.prog 4 #[.string s] w fun e w' => e = .returned (.bool true) ∧ Below w.heap.size w w' := by
  have hi0 : (0 : Int) ≤ (s.size : Int) := by omega
  by_cases hbig : 1000 < s.size
  · go_enter Try.func4, Try.ntmps4
    go_wp2_with fail
    refine (shown_any w).mono ?_
    rintro e w1 ⟨rfl, hb1⟩
    go_wp2_with fail
    go_ret
    exact ⟨rfl, hb1⟩
  · go_enter Try.func4, Try.ntmps4
    go_wp2_with fail
    refine (shown_any w).mono ?_
    rintro e w1 ⟨rfl, hb1⟩
    go_wp2_with fail
    refine (gparse_G (s := s) (by omega) w1).mono ?_
    rintro e w2 ⟨hb2, v2, rfl, hG⟩
    have hbw2 := hb1.trans (hb2.mono hb1.size)
    have hpo := parse_ok s
    have hsp := spoils_at s
    obtain ⟨l, hl⟩ : ∃ l, parse (g3.bytes s) = l := ⟨_, rfl⟩
    rw [hl] at hG hpo hsp
    have HL := Lib.hid hl
    have hll : l.length ≤ 1000 := by omega
    have HPO := Lib.hid hpo.2
    have HSP := Lib.hid hsp
    obtain ⟨a2, c2, rfl, hform⟩ := gents_form hG
    have HF := Lib.hid hform
    clear hG hpo hsp hl hform hb1 hb2
    go_wp2_with fail
    go_loopw [5] (fun i wr => ∃ k : Nat, k ≤ l.length ∧ i = .int .i64 k ∧ Below w.heap.size w wr ∧ Below w2.heap.size w2 wr) (fun i _ => l.length - (intOf i).toNat)
    case atStart => exact ⟨0, Nat.zero_le _, rfl, hbw2, Below.refl _ _⟩
    case round =>
      obtain ⟨k, hk, rfl, hbr, hb2r⟩ := hrel
      by_cases hlt : k < l.length
      · obtain ⟨g, o, rfl, hg, hc⟩ := HF.out (by omega)
        obtain ⟨av, d0, d1, d2, d3, hav⟩ := hc k hlt
        obtain ⟨q1, q2, q3, q4, q5⟩ := HSP.out k hlt
        have hal := (HPO.out l[k] (List.getElem_mem hlt)).2.1
        have tt : ∀ j, wr.cell? ⟨g, j, none⟩ = w2.cell? ⟨g, j, none⟩ := fun j => hb2r.cell (p := ⟨g, j, none⟩) hg
        have D0 := Lib.hid d0; have D1 := Lib.hid d1; have D2 := Lib.hid d2; have D3 := Lib.hid d3
        rw [← tt] at d0 d1 d2 d3
        obtain ⟨pa, pca, rfl, hpa⟩ := ints_form' hav
        have HQ5 := Lib.hid q5
        have hi1 : (0 : Int) ≤ (k : Int) := by omega
        have hi2 : (k : Int) < (l.length : Int) := by omega
        have hat0 : (0 : Int) ≤ (l[k].at_ : Int) := by omega
        have hat1 : (l[k].at_ : Int) < (s.size : Int) := by omega
        have ha1 : decide ((l[k].at_ : Int) < 0) = false := by simp
        have ha2 : decide ((s.size : Int) ≤ (l[k].at_ : Int)) = false := by simp; omega
        have ha3 : decide (s.size ≤ l[k].at_) = false := by simp; omega
        have HTT := Lib.hid tt; have HC := Lib.hid hc
        clear hav hpa q5 tt hc
        cases hok : l[k].ok with
        | true =>
          rw [hok] at d2 D2
          by_cases hk0 : k = 0
          · subst hk0
            simp only [Nat.zero_mul, Nat.add_zero] at d0 d1 d2 d3 D0 D1 D2 D3
            have HC0 : Hid True := trivial
            go_wp2_with fail
            go_quiet (fail)
            by_cases hk1 : 0 + 1 < l.length
            · obtain ⟨_, _, _, _, e3, _⟩ := HC.out (0 + 1) hk1
              rw [← HTT.out] at e3
              simp only [Nat.zero_add, Nat.one_mul] at e3
              have hn : nxt (g3.bytes s) l 0 = l[0 + 1].at_ := by unfold nxt; rw [dif_pos hk1]
              rw [hn] at q2 q3 HQ5
              have hk1' : ((0 : Nat) : Int) + 1 < (l.length : Int) := by omega
              have hk2' : (0 : Int) ≤ ((0 : Nat) : Int) + 1 := by omega
              have hn1 : (l[0].at_ : Int) ≤ (l[0 + 1].at_ : Int) := by omega
              have hn2 : (l[0 + 1].at_ : Int) ≤ (s.size : Int) := by omega
              clear hn HC0
              go_wp2_with fail
              refine (gparse_G (s := s.extract l[0].at_ (l[0 + 1].at_)) (by simp; omega) _).mono ?_
              rintro e w4 ⟨hb4, v4, rfl, hG4⟩
              have hb24 := (drewN_below hb2r _).trans (hb4.mono (drewN_below hb2r _).size)
              have hbw4 := (drewN_below hbr _).trans (hb4.mono (drewN_below hbr _).size)
              rw [HQ5.out] at hG4
              obtain ⟨a4, c4, rfl, hform4⟩ := gents_form hG4
              obtain ⟨g4, o4, rfl, hg4, hc4⟩ := hform4 (by simp)
              obtain ⟨av4, f0, f1, f2, f3, hav4⟩ := hc4 0 (by simp)
              obtain ⟨pa4, pca4, rfl, hpa4⟩ := ints_form' hav4
              simp only [List.getElem_cons_zero, Nat.zero_mul, Nat.add_zero] at f0 f1 f2 f3
              have d0' := (hb24.cell (p := ⟨g, _, none⟩) hg).trans D0.out
              have d1' := (hb24.cell (p := ⟨g, _, none⟩) hg).trans D1.out
              have d2' := (hb24.cell (p := ⟨g, _, none⟩) hg).trans D2.out
              clear hform4 hc4 hpa4 hav4 hG4 d0 d1 d2 d3 hb4 hb2r hbr
              go_wp2_with fail
              go_quiet (fail)
              go_wp2_with fail
              go_roundw
              case rel => exact ⟨0 + 1, by omega, by go_num, drewN_below hbw4 _, drewN_below hb24 _⟩
              case measure => simp [intOf]; omega
            · have hn : nxt (g3.bytes s) l 0 = s.size := by unfold nxt; rw [dif_neg hk1, bytes_len]
              rw [hn] at q2 q3 HQ5
              have hk1' : ¬ ((0 : Nat) : Int) + 1 < (l.length : Int) := by omega
              have hn1 : (l[0].at_ : Int) ≤ (s.size : Int) := by omega
              clear hn HC0
              go_wp2_with fail
              refine (gparse_G (s := s.extract l[0].at_ s.size) (by simp; omega) _).mono ?_
              rintro e w4 ⟨hb4, v4, rfl, hG4⟩
              have hb24 := (drewN_below hb2r _).trans (hb4.mono (drewN_below hb2r _).size)
              have hbw4 := (drewN_below hbr _).trans (hb4.mono (drewN_below hbr _).size)
              rw [HQ5.out] at hG4
              obtain ⟨a4, c4, rfl, hform4⟩ := gents_form hG4
              obtain ⟨g4, o4, rfl, hg4, hc4⟩ := hform4 (by simp)
              obtain ⟨av4, f0, f1, f2, f3, hav4⟩ := hc4 0 (by simp)
              obtain ⟨pa4, pca4, rfl, hpa4⟩ := ints_form' hav4
              simp only [List.getElem_cons_zero, Nat.zero_mul, Nat.add_zero] at f0 f1 f2 f3
              have d0' := (hb24.cell (p := ⟨g, _, none⟩) hg).trans D0.out
              have d1' := (hb24.cell (p := ⟨g, _, none⟩) hg).trans D1.out
              have d2' := (hb24.cell (p := ⟨g, _, none⟩) hg).trans D2.out
              clear hform4 hc4 hpa4 hav4 hG4 d0 d1 d2 d3 hb4 hb2r hbr
              go_wp2_with fail
              go_quiet (fail)
              go_wp2_with fail
              go_roundw
              case rel => exact ⟨0 + 1, by omega, by go_num, drewN_below hbw4 _, drewN_below hb24 _⟩
              case measure => simp [intOf]; omega
          · obtain ⟨k', rfl⟩ : ∃ k', k = k' + 1 := ⟨k - 1, by omega⟩
            clear hk0
            obtain ⟨_, _, _, _, e4, _⟩ := HC.out k' (by omega)
            rw [← HTT.out] at e4
            obtain ⟨_, r2, _, _, _⟩ := HSP.out k' (by omega)
            rw [show nxt (g3.bytes s) l k' = l[k' + 1].at_ by unfold nxt; rw [dif_pos hlt]] at r2
            have hk0 : (0 : Int) < (k' : Int) + 1 := by omega
            have ha4 : decide ((l[k' + 1].at_ : Int) ≤ (l[k'].at_ : Int)) = false := by simp; omega
            have ha5 : decide (l[k' + 1].at_ ≤ l[k'].at_) = false := by simp; omega
            have HC0 : Hid True := trivial
            go_wp2_with fail
            go_quiet (fail)
            by_cases hk1 : k' + 1 + 1 < l.length
            · obtain ⟨_, _, _, _, e3, _⟩ := HC.out (k' + 1 + 1) hk1
              rw [← HTT.out] at e3
              have hn : nxt (g3.bytes s) l (k' + 1) = l[k' + 1 + 1].at_ := by unfold nxt; rw [dif_pos hk1]
              rw [hn] at q2 q3 HQ5
              have hk1' : ((k' + 1 : Nat) : Int) + 1 < (l.length : Int) := by omega
              have hk2' : (0 : Int) ≤ ((k' + 1 : Nat) : Int) + 1 := by omega
              have hn1 : (l[k' + 1].at_ : Int) ≤ (l[k' + 1 + 1].at_ : Int) := by omega
              have hn2 : (l[k' + 1 + 1].at_ : Int) ≤ (s.size : Int) := by omega
              clear hn HC0 e4 ha4 ha5 hk0
              go_wp2_with fail
              refine (gparse_G (s := s.extract l[k' + 1].at_ (l[k' + 1 + 1].at_)) (by simp; omega) _).mono ?_
              rintro e w4 ⟨hb4, v4, rfl, hG4⟩
              have hb24 := (drewN_below hb2r _).trans (hb4.mono (drewN_below hb2r _).size)
              have hbw4 := (drewN_below hbr _).trans (hb4.mono (drewN_below hbr _).size)
              rw [HQ5.out] at hG4
              obtain ⟨a4, c4, rfl, hform4⟩ := gents_form hG4
              obtain ⟨g4, o4, rfl, hg4, hc4⟩ := hform4 (by simp)
              obtain ⟨av4, f0, f1, f2, f3, hav4⟩ := hc4 0 (by simp)
              obtain ⟨pa4, pca4, rfl, hpa4⟩ := ints_form' hav4
              simp only [List.getElem_cons_zero, Nat.zero_mul, Nat.add_zero] at f0 f1 f2 f3
              have d0' := (hb24.cell (p := ⟨g, _, none⟩) hg).trans D0.out
              have d1' := (hb24.cell (p := ⟨g, _, none⟩) hg).trans D1.out
              have d2' := (hb24.cell (p := ⟨g, _, none⟩) hg).trans D2.out
              clear hform4 hc4 hpa4 hav4 hG4 d0 d1 d2 d3 hb4 hb2r hbr
              go_wp2_with fail
              go_quiet (fail)
              go_wp2_with fail
              go_roundw
              case rel => exact ⟨k' + 1 + 1, by omega, by go_num, drewN_below hbw4 _, drewN_below hb24 _⟩
              case measure => simp [intOf]; omega
            · have hn : nxt (g3.bytes s) l (k' + 1) = s.size := by unfold nxt; rw [dif_neg hk1, bytes_len]
              rw [hn] at q2 q3 HQ5
              have hk1' : ¬ ((k' + 1 : Nat) : Int) + 1 < (l.length : Int) := by omega
              have hn1 : (l[k' + 1].at_ : Int) ≤ (s.size : Int) := by omega
              clear hn HC0 e4 ha4 ha5 hk0
              go_wp2_with fail
              refine (gparse_G (s := s.extract l[k' + 1].at_ s.size) (by simp; omega) _).mono ?_
              rintro e w4 ⟨hb4, v4, rfl, hG4⟩
              have hb24 := (drewN_below hb2r _).trans (hb4.mono (drewN_below hb2r _).size)
              have hbw4 := (drewN_below hbr _).trans (hb4.mono (drewN_below hbr _).size)
              rw [HQ5.out] at hG4
              obtain ⟨a4, c4, rfl, hform4⟩ := gents_form hG4
              obtain ⟨g4, o4, rfl, hg4, hc4⟩ := hform4 (by simp)
              obtain ⟨av4, f0, f1, f2, f3, hav4⟩ := hc4 0 (by simp)
              obtain ⟨pa4, pca4, rfl, hpa4⟩ := ints_form' hav4
              simp only [List.getElem_cons_zero, Nat.zero_mul, Nat.add_zero] at f0 f1 f2 f3
              have d0' := (hb24.cell (p := ⟨g, _, none⟩) hg).trans D0.out
              have d1' := (hb24.cell (p := ⟨g, _, none⟩) hg).trans D1.out
              have d2' := (hb24.cell (p := ⟨g, _, none⟩) hg).trans D2.out
              clear hform4 hc4 hpa4 hav4 hG4 d0 d1 d2 d3 hb4 hb2r hbr
              go_wp2_with fail
              go_quiet (fail)
              go_wp2_with fail
              go_roundw
              case rel => exact ⟨k' + 1 + 1, by omega, by go_num, drewN_below hbw4 _, drewN_below hb24 _⟩
              case measure => simp [intOf]; omega
        | false =>
          rw [hok] at d2 D2
          have hag : l[k].args = [] := q4 hok
          have hal0 : l[k].args.length = 0 := by rw [hag]; rfl
          rw [hal0] at d1 D1
          by_cases hk0 : k = 0
          · subst hk0
            simp only [Nat.zero_mul, Nat.add_zero] at d0 d1 d2 d3 D0 D1 D2 D3
            have HC0 : Hid True := trivial
            go_wp2_with fail
            go_quiet (fail)
            by_cases hk1 : 0 + 1 < l.length
            · obtain ⟨_, _, _, _, e3, _⟩ := HC.out (0 + 1) hk1
              rw [← HTT.out] at e3
              simp only [Nat.zero_add, Nat.one_mul] at e3
              have hn : nxt (g3.bytes s) l 0 = l[0 + 1].at_ := by unfold nxt; rw [dif_pos hk1]
              rw [hn] at q2 q3 HQ5
              have hk1' : ((0 : Nat) : Int) + 1 < (l.length : Int) := by omega
              have hk2' : (0 : Int) ≤ ((0 : Nat) : Int) + 1 := by omega
              have hn1 : (l[0].at_ : Int) ≤ (l[0 + 1].at_ : Int) := by omega
              have hn2 : (l[0 + 1].at_ : Int) ≤ (s.size : Int) := by omega
              clear hn HC0
              go_wp2_with fail
              refine (gparse_G (s := s.extract l[0].at_ (l[0 + 1].at_)) (by simp; omega) _).mono ?_
              rintro e w4 ⟨hb4, v4, rfl, hG4⟩
              have hb24 := (drewN_below hb2r _).trans (hb4.mono (drewN_below hb2r _).size)
              have hbw4 := (drewN_below hbr _).trans (hb4.mono (drewN_below hbr _).size)
              rw [HQ5.out] at hG4
              obtain ⟨a4, c4, rfl, hform4⟩ := gents_form hG4
              obtain ⟨g4, o4, rfl, hg4, hc4⟩ := hform4 (by simp)
              obtain ⟨av4, f0, f1, f2, f3, hav4⟩ := hc4 0 (by simp)
              obtain ⟨pa4, pca4, rfl, hpa4⟩ := ints_form' hav4
              simp only [List.getElem_cons_zero, Nat.zero_mul, Nat.add_zero] at f0 f1 f2 f3
              have d0' := (hb24.cell (p := ⟨g, _, none⟩) hg).trans D0.out
              have d1' := (hb24.cell (p := ⟨g, _, none⟩) hg).trans D1.out
              have d2' := (hb24.cell (p := ⟨g, _, none⟩) hg).trans D2.out
              clear hform4 hc4 hpa4 hav4 hG4 d0 d1 d2 d3 hb4 hb2r hbr
              go_wp2_with fail
              go_quiet (fail)
              go_wp2_with fail
              go_roundw
              case rel => exact ⟨0 + 1, by omega, by go_num, drewN_below hbw4 _, drewN_below hb24 _⟩
              case measure => simp [intOf]; omega
            · have hn : nxt (g3.bytes s) l 0 = s.size := by unfold nxt; rw [dif_neg hk1, bytes_len]
              rw [hn] at q2 q3 HQ5
              have hk1' : ¬ ((0 : Nat) : Int) + 1 < (l.length : Int) := by omega
              have hn1 : (l[0].at_ : Int) ≤ (s.size : Int) := by omega
              clear hn HC0
              go_wp2_with fail
              refine (gparse_G (s := s.extract l[0].at_ s.size) (by simp; omega) _).mono ?_
              rintro e w4 ⟨hb4, v4, rfl, hG4⟩
              have hb24 := (drewN_below hb2r _).trans (hb4.mono (drewN_below hb2r _).size)
              have hbw4 := (drewN_below hbr _).trans (hb4.mono (drewN_below hbr _).size)
              rw [HQ5.out] at hG4
              obtain ⟨a4, c4, rfl, hform4⟩ := gents_form hG4
              obtain ⟨g4, o4, rfl, hg4, hc4⟩ := hform4 (by simp)
              obtain ⟨av4, f0, f1, f2, f3, hav4⟩ := hc4 0 (by simp)
              obtain ⟨pa4, pca4, rfl, hpa4⟩ := ints_form' hav4
              simp only [List.getElem_cons_zero, Nat.zero_mul, Nat.add_zero] at f0 f1 f2 f3
              have d0' := (hb24.cell (p := ⟨g, _, none⟩) hg).trans D0.out
              have d1' := (hb24.cell (p := ⟨g, _, none⟩) hg).trans D1.out
              have d2' := (hb24.cell (p := ⟨g, _, none⟩) hg).trans D2.out
              clear hform4 hc4 hpa4 hav4 hG4 d0 d1 d2 d3 hb4 hb2r hbr
              go_wp2_with fail
              go_quiet (fail)
              go_wp2_with fail
              go_roundw
              case rel => exact ⟨0 + 1, by omega, by go_num, drewN_below hbw4 _, drewN_below hb24 _⟩
              case measure => simp [intOf]; omega
          · obtain ⟨k', rfl⟩ : ∃ k', k = k' + 1 := ⟨k - 1, by omega⟩
            clear hk0
            obtain ⟨_, _, _, _, e4, _⟩ := HC.out k' (by omega)
            rw [← HTT.out] at e4
            obtain ⟨_, r2, _, _, _⟩ := HSP.out k' (by omega)
            rw [show nxt (g3.bytes s) l k' = l[k' + 1].at_ by unfold nxt; rw [dif_pos hlt]] at r2
            have hk0 : (0 : Int) < (k' : Int) + 1 := by omega
            have ha4 : decide ((l[k' + 1].at_ : Int) ≤ (l[k'].at_ : Int)) = false := by simp; omega
            have ha5 : decide (l[k' + 1].at_ ≤ l[k'].at_) = false := by simp; omega
            have HC0 : Hid True := trivial
            go_wp2_with fail
            go_quiet (fail)
            by_cases hk1 : k' + 1 + 1 < l.length
            · obtain ⟨_, _, _, _, e3, _⟩ := HC.out (k' + 1 + 1) hk1
              rw [← HTT.out] at e3
              have hn : nxt (g3.bytes s) l (k' + 1) = l[k' + 1 + 1].at_ := by unfold nxt; rw [dif_pos hk1]
              rw [hn] at q2 q3 HQ5
              have hk1' : ((k' + 1 : Nat) : Int) + 1 < (l.length : Int) := by omega
              have hk2' : (0 : Int) ≤ ((k' + 1 : Nat) : Int) + 1 := by omega
              have hn1 : (l[k' + 1].at_ : Int) ≤ (l[k' + 1 + 1].at_ : Int) := by omega
              have hn2 : (l[k' + 1 + 1].at_ : Int) ≤ (s.size : Int) := by omega
              clear hn HC0 e4 ha4 ha5 hk0
              go_wp2_with fail
              refine (gparse_G (s := s.extract l[k' + 1].at_ (l[k' + 1 + 1].at_)) (by simp; omega) _).mono ?_
              rintro e w4 ⟨hb4, v4, rfl, hG4⟩
              have hb24 := (drewN_below hb2r _).trans (hb4.mono (drewN_below hb2r _).size)
              have hbw4 := (drewN_below hbr _).trans (hb4.mono (drewN_below hbr _).size)
              rw [HQ5.out] at hG4
              obtain ⟨a4, c4, rfl, hform4⟩ := gents_form hG4
              obtain ⟨g4, o4, rfl, hg4, hc4⟩ := hform4 (by simp)
              obtain ⟨av4, f0, f1, f2, f3, hav4⟩ := hc4 0 (by simp)
              obtain ⟨pa4, pca4, rfl, hpa4⟩ := ints_form' hav4
              simp only [List.getElem_cons_zero, Nat.zero_mul, Nat.add_zero] at f0 f1 f2 f3
              have d0' := (hb24.cell (p := ⟨g, _, none⟩) hg).trans D0.out
              have d1' := (hb24.cell (p := ⟨g, _, none⟩) hg).trans D1.out
              have d2' := (hb24.cell (p := ⟨g, _, none⟩) hg).trans D2.out
              clear hform4 hc4 hpa4 hav4 hG4 d0 d1 d2 d3 hb4 hb2r hbr
              go_wp2_with fail
              go_quiet (fail)
              go_wp2_with fail
              go_roundw
              case rel => exact ⟨k' + 1 + 1, by omega, by go_num, drewN_below hbw4 _, drewN_below hb24 _⟩
              case measure => simp [intOf]; omega
            · have hn : nxt (g3.bytes s) l (k' + 1) = s.size := by unfold nxt; rw [dif_neg hk1, bytes_len]
              rw [hn] at q2 q3 HQ5
              have hk1' : ¬ ((k' + 1 : Nat) : Int) + 1 < (l.length : Int) := by omega
              have hn1 : (l[k' + 1].at_ : Int) ≤ (s.size : Int) := by omega
              clear hn HC0 e4 ha4 ha5 hk0
              go_wp2_with fail
              refine (gparse_G (s := s.extract l[k' + 1].at_ s.size) (by simp; omega) _).mono ?_
              rintro e w4 ⟨hb4, v4, rfl, hG4⟩
              have hb24 := (drewN_below hb2r _).trans (hb4.mono (drewN_below hb2r _).size)
              have hbw4 := (drewN_below hbr _).trans (hb4.mono (drewN_below hbr _).size)
              rw [HQ5.out] at hG4
              obtain ⟨a4, c4, rfl, hform4⟩ := gents_form hG4
              obtain ⟨g4, o4, rfl, hg4, hc4⟩ := hform4 (by simp)
              obtain ⟨av4, f0, f1, f2, f3, hav4⟩ := hc4 0 (by simp)
              obtain ⟨pa4, pca4, rfl, hpa4⟩ := ints_form' hav4
              simp only [List.getElem_cons_zero, Nat.zero_mul, Nat.add_zero] at f0 f1 f2 f3
              have d0' := (hb24.cell (p := ⟨g, _, none⟩) hg).trans D0.out
              have d1' := (hb24.cell (p := ⟨g, _, none⟩) hg).trans D1.out
              have d2' := (hb24.cell (p := ⟨g, _, none⟩) hg).trans D2.out
              clear hform4 hc4 hpa4 hav4 hG4 d0 d1 d2 d3 hb4 hb2r hbr
              go_wp2_with fail
              go_quiet (fail)
              go_wp2_with fail
              go_roundw
              case rel => exact ⟨k' + 1 + 1, by omega, by go_num, drewN_below hbw4 _, drewN_below hb24 _⟩
              case measure => simp [intOf]; omega
      · obtain rfl : k = l.length := by omega
        go_wp2_with fail
        go_ret
        exact ⟨rfl, hbr⟩
theorem own : ownKnob Try.prog.godebug = none := by kernel_rfl
theorem laidOut : laidOutB Try.prog = true := by kernel_rfl
set_option maxRecDepth 100000 in
theorem lifted (os : Os) (started : os.Started) (H : Type) (enc : TypeId × Value → H) :
    ReturnsInHanded {} Try.checked os 4 .any (Rows.glyphSpoilsSpec.pre6 enc Try.prog Try.f4 Rows.glyphSpoilsRow.domain false) (Rows.glyphSpoilsSpec.post enc Try.prog Try.f4 false true false false) := by
  refine returnsInHanded_of_change_sized (C := Try.checked) own started (by kernel_rfl) Try.func4
    (ChangeSpec.witness6 (enc := enc) (C := Try.checked) false ⟨#[], #[.string ByteArray.empty], []⟩ 8 (by kernel_rfl) (by kernel_rfl) (by kernel_rfl) (by kernel_rfl)) ?_
  intro W base args ds gs before hval0 hW hcnd hsz0 _
  have hsz : (DataW.weightsEach Try.prog (Try.f4.params.toList ++ Rows.glyphSpoilsSpec.plain.varTypes Try.prog) (ds ++ gs)).all (· ≤ reachBytes) = true := hsz0
  clear hsz0
  have hval : ∀ (j : Nat) t v, Try.f4.params[j]? = some t → args[j]? = some v → Value.okWide Try.prog W .any base t v := hval0
  have hW' := hW
  obtain ⟨p, q, hA0, hV, rfl, hfz, hnd⟩ := hW
  have hA : DataW.TrodAll enc Try.prog W 0 (fun _ => true) true Try.f4.params.toList args.toList ds p := hA0
  rw [Try.params4] at hA hval hsz
  obtain ⟨v0, vs0, d0, ds0, p0, q0, hargs, rfl, rfl, h0, r0⟩ := trodAll_cons hA
  obtain ⟨rfl, rfl, rfl⟩ := trodAll_nil r0
  obtain rfl : args = #[v0] := by cases args; simp_all
  obtain ⟨rfl, rfl⟩ := trodVars_none hV
  obtain ⟨a0, rfl, rfl, rfl, ws0⟩ := Go.ChangeMaps.open_string Try.underlying9 (hval 0 9 v0 rfl rfl) h0
  have w0 : a0.size ≤ 140737488351232 := by
    have := sized_string hsz (j := 0) (t := 9) rfl rfl
    simpa [reachBytes] using this
  clear hA0 hval0
  refine (walk a0 W w0).mono fun e W' ⟨he, hb⟩ => ?_
  subst he
  exact ⟨_, rfl, lift.post_law (tb := 4) laidOut (by rw [Try.params4]; exact fun t ht => (of_decide_eq_true (by kernel_rfl) : ∀ t ∈ [9], Try.prog.readableRec t = true ∧ t < Try.prog.types.size) t ht) (by kernel_rfl) Try.underlying4 rfl hW' rfl hb⟩
theorem over : Rows.glyphSpoilsRow.holds Try.pinned (OpenSpec.ofChange Rows.glyphSpoilsSpec) :=
  OpenClaim.holds_of_wide 4 Try.f4 rfl rfl rfl rfl rfl rfl rfl ⟨rfl, rfl, rfl, rfl, rfl⟩ rfl rfl rfl rfl rfl (by kernel_rfl) Try.func4 (by kernel_rfl)
    (of_decide_eq_true (by kernel_rfl)) (by unfold Func.isWrapper; first | (rw [if_pos (by decide +kernel)]; kernel_rfl) | (rw [if_neg (by decide +kernel)]; exact ⟨rfl, rfl⟩))
    (fun os started H enc _ => lifted os started H enc)
theorem proved : Rows.GlyphSpoilsSaid :=
  over
end Go.Proofs.Ytolampkhohahlaa.glyphSpoils
