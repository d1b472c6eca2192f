/- GlyphTells: the entries of any text, and the text of any entries, or that they have none, are as the chapter says: no condition. -/
import Derived.Test.YtolampkhohahlaaDoorGlyphT
import Derived.Test.YtolampkhohahlaaDoorGlyphWZ
import Derived.Test.YtolampkhohahlaaDoorGlyphOp
import Derived.Test.YtolampkhohahlaaDoorGlyphDoor
import Derived.Test.YtolampkhohahlaaDoorCards
import Derived.Test.YtolampkhohahlaaDoorTie
import Derived.SevenTiedAt
import Derived.SizedLaws
import Derived.ChangeMaps5
namespace Go.Proofs.YtolampkhohahlaaDoor.g3
open gl lift
theorem bytes_inj {a b : ByteArray} (h : bytes a = bytes b) : a = b := by
  unfold bytes at h
  have h2 : a.data.toList = b.data.toList := by
    have hinj : Function.Injective (fun b : UInt8 => (b.toNat : Int)) := fun x y hxy => by
      have : x.toNat = y.toNat := by
        have h2 : (x.toNat : Int) = (y.toNat : Int) := hxy
        omega
      exact UInt8.toNat_inj.1 this
    exact (List.map_inj_right (fun x y hxy => hinj hxy)).1 h
  cases a; cases b
  simp only [ByteArray.mk.injEq]
  exact Array.toList_inj.1 h2
theorem same_refl' (l : List Ent) (t : Bool) : same l l t = true := by
  induction l with
  | nil => rfl
  | cons e l ih =>
    rw [same, ih]
    unfold sameE
    simp
def sumLen (l : List Ent) : Nat := (l.map fun e => e.args.length).sum
theorem sumLen_take (l : List Ent) (k : Nat) (hk : k < l.length) : sumLen (l.take (k + 1)) = sumLen (l.take k) + l[k].args.length := by
  unfold sumLen
  rw [List.take_succ_eq_append_getElem hk, List.map_append, List.sum_append]
  simp
theorem sumLen_le (l : List Ent) (M : Nat) (h : ∀ e ∈ l, e.args.length ≤ M) : sumLen l ≤ l.length * M := by
  unfold sumLen
  induction l with
  | nil => simp
  | cons e l ih =>
    have h1 := ih (fun f hf => h f (List.mem_cons_of_mem _ hf))
    have h2 := h e (List.mem_cons_self ..)
    simp only [List.map_cons, List.sum_cons, List.length_cons]
    rw [Nat.succ_mul]
    omega
theorem sumLen_ge (l : List Ent) : ∀ e ∈ l, e.args.length ≤ sumLen l := by
  unfold sumLen
  induction l with
  | nil => simp
  | cons e l ih =>
    intro f hf
    simp only [List.map_cons, List.sum_cons]
    rcases List.mem_cons.1 hf with rfl | hf
    · omega
    · have := ih f hf
      omega
end Go.Proofs.YtolampkhohahlaaDoor.g3
namespace Go.Proofs.YtolampkhohahlaaDoor.glyphTells
open Go.ChangeShapes Go.WideShapes Go.ChangeAt Go.RowKit frame lift gl own g3
set_option linter.unusedVariables false
set_option maxRecDepth 100000 in
set_option maxHeartbeats 8000000 in
theorem walk (s : ByteArray) (v1 : Value) (l : List Ent) (w : World) (ws : s.size ≤ 140737488351232) (f1 : GLoose w v1 l) (z1 : EntsOk l) (hT : Tab w) :
    Calls Tryd.prog 3 #[.string s, v1] w fun e w' => e = .returned (.bool true) ∧ Below w.heap.size w w' := by
  have HG0 := Lib.hid f1; have HZ := Lib.hid z1; have HT := Lib.hid hT
  obtain ⟨a1, c1, rfl, hform⟩ := gloose_form f1
  have HF := Lib.hid hform
  clear f1 z1 hT hform
  by_cases hbig : 2000 < s.size
  · have hbi : (2000 : Int) < (s.size : Int) := by omega
    go_enter Tryd.func3, Tryd.ntmps3
    go_wp2_with fail
    refine (shown_any w).mono ?_
    rintro e w1 ⟨rfl, hb1⟩
    go_wp2_with fail
    go_ret
    exact ⟨rfl, hb1⟩
  · by_cases hbl : 100 < l.length
    · have hbi : ¬ (2000 : Int) < (s.size : Int) := by omega
      have hbj : (100 : Int) < (l.length : Int) := by omega
      go_enter Tryd.func3, Tryd.ntmps3
      go_wp2_with fail
      refine (shown_any w).mono ?_
      rintro e w1 ⟨rfl, hb1⟩
      go_wp2_with fail
      go_ret
      exact ⟨rfl, hb1⟩
    · have hbi : ¬ (2000 : Int) < (s.size : Int) := by omega
      have hbj : ¬ (100 : Int) < (l.length : Int) := by omega
      have hSM : ∀ k, k ≤ l.length → sumLen (l.take k) ≤ 1759218604441600 := fun k hk => by
        have := sumLen_le (l.take k) 17592186044416 (fun e he => (HZ.out e (List.mem_of_mem_take he)).1.2)
        rw [List.length_take] at this
        have h2 : min k l.length * 17592186044416 ≤ 100 * 17592186044416 := Nat.mul_le_mul_right _ (by omega)
        omega
      have HSM := Lib.hid hSM
      clear hSM
      go_enter Tryd.func3, Tryd.ntmps3
      go_wp2_with fail
      refine (shown_any w).mono ?_
      rintro e w1 ⟨rfl, hb1⟩
      go_wp2_with fail
      go_loop [6, 7] (fun n i => ∃ k : Nat, k ≤ l.length ∧ i = .int .i64 k ∧ n = .int .i64 (sumLen (l.take k))) (fun _ i => l.length - (intOf i).toNat)
      case atStart => exact ⟨0, Nat.zero_le _, rfl, rfl⟩
      case round =>
        obtain ⟨k, hk, rfl, rfl⟩ := hrel
        by_cases hlt : k < l.length
        · obtain ⟨g, o, rfl, hg, hc⟩ := HF.out (by omega)
          obtain ⟨av, d0, d1, d2, _, hav⟩ := hc k hlt
          have e1 := (hb1.cell (p := ⟨g, o + k * 4 + 1, none⟩) hg).trans d1
          obtain ⟨pa, pca, rfl, _⟩ := ints_form' hav
          have hs1 := HSM.out k hk
          have hs2 := HSM.out (k + 1) (by omega)
          have hst := sumLen_take l k hlt
          obtain ⟨x, hx⟩ : ∃ x, sumLen (l.take k) = x := ⟨_, rfl⟩
          obtain ⟨y, hy⟩ : ∃ y, sumLen (l.take (k + 1)) = y := ⟨_, rfl⟩
          have HY := Lib.hid hy
          rw [hx, hy] at hst
          rw [hx] at hs1 ⊢
          rw [hy] at hs2
          have hi1 : (0 : Int) ≤ (k : Int) := by omega
          have hi2 : (k : Int) < (l.length : Int) := by omega
          clear hc d0 d1 d2 hav hx hy
          go_wp2_with fail
          go_round
          case rel => exact ⟨k + 1, by omega, by go_num, by rw [HY.out, hst]; go_num⟩
          case measure => simp [intOf]; omega
        · obtain rfl : k = l.length := by omega
          rw [List.take_length]
          by_cases hsum : 1000 < sumLen l
          · have hsi : (1000 : Int) < (sumLen l : Int) := by omega
            go_wp2_with fail
            go_ret
            exact ⟨rfl, hb1⟩
          · have hsi : ¬ (1000 : Int) < (sumLen l : Int) := by omega
            have HOK : Hid (PutOk l) := ⟨by omega, fun e he => ⟨by have := sumLen_ge l e he; omega, (HZ.out e he).2⟩⟩
            go_wp2_with fail
            refine (gput_any w1 (HT.out.below hb1) (HG0.out.below hb1) HOK.out).mono ?_
            rintro e w2 ⟨hb2, hp2⟩
            have hbw2 := hb1.trans (hb2.mono hb1.size)
            have key : ∃ t n, e = .returned (.tuple #[.string t, .int .i64 n]) ∧ ((∃ x ∈ l, bad x = true) ∧ t = ⟨#[]⟩ ∧ n = 1 ∨ (∀ x ∈ l, bad x = false) ∧ g3.bytes t = put l ∧ n = 0) := by
              rcases hp2 with ⟨hb, rfl⟩ | ⟨hb, t, rfl, ht⟩
              · exact ⟨_, _, rfl, .inl ⟨hb, rfl, rfl⟩⟩
              · exact ⟨_, _, rfl, .inr ⟨hb, ht, rfl⟩⟩
            obtain ⟨t, n, rfl, hres⟩ := key
            have HRES := Lib.hid hres
            clear hp2 hres hb2
            go_wp2_with fail
            refine (as_loose w2 (HG0.out.below hbw2) (by omega) (fun e he => (HZ.out e he).1.1)).mono ?_
            rintro e w3 ⟨hb3, v3, rfl, hR⟩
            have hbw3 := hbw2.trans (hb3.mono hbw2.size)
            have HR := Lib.hid hR
            clear hR hb3 hbw2
            go_wp2_with fail
            refine (put_any w3 HR.out HOK.out).mono ?_
            rintro e w4 ⟨hb4, hp4⟩
            have hbw4 := hbw3.trans (hb4.mono hbw3.size)
            have he : e = .returned (.tuple #[.string t, .int .i64 n]) := by
              rcases hp4 with ⟨hb, rfl⟩ | ⟨hb, u, rfl, hu⟩
              · rcases HRES.out with ⟨_, rfl, rfl⟩ | ⟨hb', _⟩
                · rfl
                · obtain ⟨x, hx, hbx⟩ := hb
                  rw [hb' x hx] at hbx
                  cases hbx
              · rcases HRES.out with ⟨⟨x, hx, hbx⟩, _⟩ | ⟨_, ht, rfl⟩
                · rw [hb x hx] at hbx
                  cases hbx
                · rw [bytes_inj (ht.trans hu.symm)]
            subst he
            clear hp4 hb4 hbw3 HR
            go_wp2_with fail
            refine (gparse_G (s := s) (by omega) w4).mono ?_
            rintro e w5 ⟨hb5, v5, rfl, hG5⟩
            have hbw5 := hbw4.trans (hb5.mono hbw4.size)
            have HG5 := Lib.hid hG5
            clear hG5 hb5 hbw4
            go_wp2_with fail
            refine (as_parse (s := s) (by omega) w5 HG5.out).mono ?_
            rintro e w6 ⟨hb6, v6, rfl, hA6⟩
            have hbw6 := hbw5.trans (hb6.mono hbw5.size)
            have HA6 := Lib.hid hA6
            clear hA6 hb6 hbw5 HG5
            go_wp2_with fail
            refine (parse_any (s := s) (by omega) w6).mono ?_
            rintro e w7 ⟨hb7, v7, ps7, rfl, hO7, hp7⟩
            have hbw7 := hbw6.trans (hb7.mono hbw6.size)
            have HA7 := Lib.hid (HA6.out.below hb7)
            have hR7 := hO7.reads
            rw [hp7] at hR7
            have HR7 := Lib.hid hR7
            clear hO7 hp7 hR7 hb7 hbw6 HA6
            go_wp2_with fail
            have hpo := parse_ok s
            refine (same_any true w7 HA7.out.reads HR7.out (by omega) (fun e he => by have := (hpo.2 e he).2.1; omega)).mono ?_
            rintro e w8 ⟨he, hb8⟩
            rw [same_refl'] at he
            subst he
            have hbw8 := hbw7.trans (hb8.mono hbw7.size)
            clear hb8 hbw7 HA7 HR7
            go_wp2_with fail
            go_ret
            exact ⟨rfl, hbw8⟩
theorem own : ownKnob Tryd.prog.godebug = none := by kernel_rfl
theorem laidOut : laidOutB Tryd.prog = true := by kernel_rfl
set_option maxRecDepth 100000 in
theorem lifted (os : Os) (started : os.Started) (H : Type) (enc : TypeId × Value → H) :
    ReturnsInHanded {} Tryd.checked os 3 .any (fun w args => (Rows.glyphTellsSpec.pre enc Tryd.prog Tryd.f3 [] false w args ∧ laidMetH Tryd.prog laidL w) ∧ sizedMet enc Tryd.prog Tryd.f3 (OpenSpec.ofChange Rows.glyphTellsSpec) false w args) (Rows.glyphTellsSpec.post enc Tryd.prog Tryd.f3 false true false false) := by
  refine returnsInHanded_of_change_and (C := Tryd.checked) (X := fun w _ => laidMetH Tryd.prog laidL w) (fun _ _ _ hh h => h.of_heap hh) own started (by kernel_rfl) Tryd.func3
    (ChangeSpec.witness_shaped (enc := enc) (C := Tryd.checked) (os := os) (X := fun w _ => laidMetH Tryd.prog laidL w) false (World.doorLaid Tryd.prog 400 os) #[.string ByteArray.empty, .slice none 0 0] 8 rfl (World.shaped_of_RefB (by kernel_rfl) (by kernel_rfl)) (by kernel_rfl) (by kernel_rfl) (by kernel_rfl) (door_met os _)) ?_
  intro W base args ds gs before hval0 hW hcnd hsz0 hL _
  have hsz : (DataW.weightsEach Tryd.prog (Tryd.f3.params.toList ++ Rows.glyphTellsSpec.plain.varTypes Tryd.prog) (ds ++ gs)).all (· ≤ reachBytes) = true := hsz0
  clear hsz0
  have hval : ∀ (j : Nat) t v, Tryd.f3.params[j]? = some t → args[j]? = some v → Value.okWide Tryd.prog W .any base t v := hval0
  have hW' := hW
  obtain ⟨p, q, hA0, hV, rfl, hfz, hnd⟩ := hW
  have hA : DataW.TrodAll enc Tryd.prog W 0 (fun _ => true) true Tryd.f3.params.toList args.toList ds p := hA0
  rw [Tryd.params3] at hA hval hsz
  obtain ⟨v0, vs0, d0, ds0, p0, q0, hargs, rfl, rfl, h0, r0⟩ := trodAll_cons hA
  obtain ⟨v1, vs1, d1, ds1, p1, q1, rfl, rfl, rfl, h1, r1⟩ := trodAll_cons r0
  obtain ⟨rfl, rfl, rfl⟩ := trodAll_nil r1
  obtain rfl : args = #[v0, v1] := by cases args; simp_all
  obtain ⟨rfl, rfl⟩ := trodVars_none hV
  obtain ⟨a0, rfl, rfl, rfl, ws0⟩ := Go.ChangeMaps.open_string Tryd.underlying9 (hval 0 9 v0 rfl rfl) h0
  have w0 : a0.size ≤ 140737488351232 := by
    have := sized_string hsz (j := 0) (t := 9) rfl rfl
    simpa [reachBytes] using this
  obtain ⟨a1, w1, z1⟩ := open_ents (okWide_slice Tryd.underlying22 (hval 1 22 v1 rfl rfl)) h1 (fun m hm => by
    have := List.all_eq_true.1 hsz m (DataW.weights_mem_each (j := 1) (t := 22) rfl rfl m hm)
    simpa using this)
  clear hA0 hval0
  refine (walk a0 v1 a1 W w0 w1 z1 (tab_of_laid hL)).mono fun e W' ⟨he, hb⟩ => ?_
  subst he
  exact ⟨_, rfl, lift.post_law (tb := 4) laidOut (by rw [Tryd.params3]; exact fun t ht => (of_decide_eq_true (by kernel_rfl) : ∀ t ∈ [9, 22], Tryd.prog.readableRec t = true ∧ t < Tryd.prog.types.size) t ht) (by kernel_rfl) Tryd.underlying4 rfl hW' rfl hb⟩
theorem over : Rows.glyphTellsRow.holds Tryd.pinned (OpenSpec.ofChange Rows.glyphTellsSpec) :=
  OpenClaim.holds_of_wide 3 Tryd.f3 rfl rfl rfl rfl rfl rfl rfl ⟨rfl, rfl, rfl, rfl, rfl⟩ rfl rfl rfl rfl rfl (by kernel_rfl) Tryd.func3 (by kernel_rfl)
    (of_decide_eq_true (by kernel_rfl)) (by unfold Func.isWrapper; first | (rw [if_pos (by decide +kernel)]; kernel_rfl) | (rw [if_neg (by decide +kernel)]; exact ⟨rfl, rfl⟩))
    (fun os started H enc _ => lifted os started H enc)
theorem proved : Rows.GlyphTellsCardSaid :=
  Claim7.holds_tied_plain_at .later [] [.data, .data, .data] true Rows.glyphTellsCard.stood.harness false
    over (fun _ h => by cases h) (by kernel_rfl) (fun _ h => by cases h) glyphTells_row_tie rfl ⟨rfl, rfl⟩ (by kernel_rfl) (by kernel_rfl)
    (fun f fn hf hfn => by
      obtain rfl : f = 3 := Option.some.inj ((show Tryd.prog.funcNamed Rows.glyphTellsRow.func = some 3 by kernel_rfl).symm.trans hf) |>.symm
      obtain rfl : fn = Tryd.f3 := (Option.some.inj (Tryd.func3.symm.trans hfn)).symm
      exact ⟨by kernel_rfl, fun j t ht => by
        rw [Tryd.params3] at ht
        have hm : t ∈ [9, 22] := by simpa using Array.mem_of_getElem? ht
        have hall : ([9, 22].all fun u => !Tryd.prog.wantsStandIn u) = true := by kernel_rfl
        exact (show Tryd.prog.wantsStandIn t = false by simpa using List.all_eq_true.1 hall t hm)⟩)
    (by kernel_rfl)
end Go.Proofs.YtolampkhohahlaaDoor.glyphTells
