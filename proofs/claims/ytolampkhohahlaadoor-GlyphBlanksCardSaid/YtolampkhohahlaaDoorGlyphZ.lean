/- Contracts of package glyph: which runes may begin an entry, numbers put behind a text, over this seat's program. -/
import Derived.Test.YtolampkhohahlaaDoorGlyphI
import Derived.Test.YtolampkhohahlaaDoorGlyphK
import Derived.Test.YtolampkhohahlaaDoorGlyphQ
import Derived.Test.YtolampkhohahlaaDoorGlyphE
namespace Go.Proofs.YtolampkhohahlaaDoor.g3
open Go.ChangeShapes Go.WideShapes Go.ChangeAt Go.RowKit frame lift gl own
set_option linter.unusedVariables false
set_option linter.unusedSimpArgs false
/-- The library's table of powers of ten is as it was laid. -/
def Tab (w : World) : Prop := Go.Lib.TabIs Tryd.prog w "internal/strconv.uint64pow10" .u64 Go.Lib.pow10Tab
theorem Tab.below {w w' : World} (h : Tab w) (hb : Below w.heap.size w w') : Tab w' := by
  unfold Tab Go.Lib.TabIs World.var? at *
  cases hg : Tryd.prog.globalNamed "internal/strconv.uint64pow10" with
  | none => rw [hg] at h; simp at h
  | some g =>
    rw [hg] at h
    simp only [Option.bind_some] at h ⊢
    have hlt : g < w.heap.size := by
      rcases Nat.lt_or_ge g w.heap.size with h1 | h1
      · exact h1
      · rw [Array.getElem?_eq_none h1] at h
        simp at h
    rw [hb.block g hlt]
    exact h
def mayB (r : Int) : Bool := Go.Lib.validRune r && r != 65533 && !gl.blank r && !numb r
theorem bad_is (e : Ent) : bad e = !(e.ok && mayB e.op) := by
  have hv : Go.Lib.validRune e.op = !(decide (e.op < 0) || decide (1114111 < e.op) || (decide (55296 ≤ e.op) && decide (e.op ≤ 57343))) := by
    unfold Go.Lib.validRune
    rw [Bool.eq_iff_iff]
    simp
    omega
  unfold bad mayB
  rw [hv]
  unfold bne
  clear hv
  generalize (e.op == 65533) = q
  cases e.ok <;> cases decide (e.op < 0) <;> cases decide (1114111 < e.op) <;> cases decide (55296 ≤ e.op) <;> cases decide (e.op ≤ 57343) <;> cases q <;> simp
theorem mayBegin_any (r : Int) (w : World) : Calls Tryd.prog 17 #[.int .i32 r] w fun e w' => e = .returned (.bool (mayB r)) ∧ w = w' := by
  cases hv : Go.Lib.validRune r with
  | false =>
    have H : Hid (mayB r = false) := by unfold Hid mayB; rw [hv]; rfl
    go_enter Tryd.func17, Tryd.ntmps17
    go_wp2_with fail
    refine (Tryd.utf8_ValidRune r w).mono ?_
    rintro e w' ⟨he, rfl⟩
    rw [hv] at he
    subst he
    go_wp2_with fail
    go_ret
    rw [H.out]; exact ⟨rfl, rfl⟩
  | true =>
    cases h5 : (r == 65533) with
    | true =>
      have h5' : (r != 65533) = false := by rw [bne, h5]; rfl
      have H : Hid (mayB r = false) := by unfold Hid mayB; rw [h5']; simp
      go_enter Tryd.func17, Tryd.ntmps17
      go_wp2_with fail
      refine (Tryd.utf8_ValidRune r w).mono ?_
      rintro e w' ⟨he, rfl⟩
      rw [hv] at he
      subst he
      go_wp2_with fail
      go_ret
      rw [H.out]; exact ⟨rfl, rfl⟩
    | false =>
      have h5' : (r != 65533) = true := by rw [bne, h5]; rfl
      cases hb : gl.blank r with
      | true =>
        have H : Hid (mayB r = false) := by unfold Hid mayB; rw [hb]; simp
        go_enter Tryd.func17, Tryd.ntmps17
        go_wp2_with fail
        refine (Tryd.utf8_ValidRune r w).mono ?_
        rintro e w' ⟨he, rfl⟩
        rw [hv] at he
        subst he
        go_wp2_with fail
        refine (isBlank_any r _).mono ?_
        rintro e w' ⟨he, rfl⟩
        rw [hb] at he
        subst he
        go_wp2_with fail
        go_ret
        rw [H.out]; exact ⟨rfl, rfl⟩
      | false =>
        have H : Hid (mayB r = !numb r) := by unfold Hid mayB; rw [hv, h5', hb]; simp
        go_enter Tryd.func17, Tryd.ntmps17
        go_wp2_with fail
        refine (Tryd.utf8_ValidRune r w).mono ?_
        rintro e w' ⟨he, rfl⟩
        rw [hv] at he
        subst he
        go_wp2_with fail
        refine (isBlank_any r _).mono ?_
        rintro e w' ⟨he, rfl⟩
        rw [hb] at he
        subst he
        go_wp2_with fail
        refine (isOfNumbers_any r _).mono ?_
        rintro e w' ⟨rfl, rfl⟩
        go_wp2_with fail
        go_ret
        rw [H.out]; exact ⟨rfl, rfl⟩
theorem row_iter {w : World} {B : Nat} {e : TypeId} {size : Nat} {v : Value} {n : Nat} {xs : List Value} (h : w.ownsRow B e size v n xs) {k : Nat} {s s' : ByteArray} {q : Nat} (hk : w.heap[k]? = some (.stringIter s' q)) (p : Nat) : (w.iterAt k s p).ownsRow B e size v n xs := by
  obtain ⟨h1, h2 | ⟨g, cap, cur, hv, hg, hh, r⟩⟩ := h
  · exact ⟨h1, .inl h2⟩
  · refine ⟨h1, .inr ⟨g, cap, cur, hv, hg, ?_, r⟩⟩
    rw [iterAt_other _ _ _ _ _ (fun e => by subst e; rw [hh] at hk; simp at hk)]
    exact hh
theorem iter_kept {w w' : World} {B : Nat} {e : TypeId} {k0 : IntKind} {v : Value} {l : List Int} (h : Own w B e k0 v l) {k : Nat} {s : ByteArray} {q : Nat} (hk : w.heap[k]? = some (.stringIter s q)) (hg : w.grownBy w' v.ownBlock) : w'.heap[k]? = some (.stringIter s q) := by
  have hlt : k < w.heap.size := (Array.getElem?_eq_some_iff.1 hk).1
  rw [hg.block k hlt (fun e => by
    obtain ⟨cur, hc⟩ := ownsRow_elem h e.symm
    rw [hk] at hc
    simp at hc), hk]
theorem info32 : (Tryd.prog.info? 21).map (fun i => (i.zero, i.size, i.bytes)) = some (some (.int .i32 0), 1, 4) := by kernel_rfl
theorem digits_dig (n : Int) : ∀ b ∈ digits n, numb b = true := fun b hb => by
  have h := digF_dig 20 n.toNat b hb
  unfold Dig at h
  unfold numb
  simp
  omega
theorem lt_of_heap {w : World} {k : Nat} {o : Obj} (h : w.heap[k]? = some o) : k < w.heap.size := (Array.getElem?_eq_some_iff.1 h).1
theorem iterPos_of {w : World} {k : Nat} {s : ByteArray} {i : Nat} (h : w.heap[k]? = some (.stringIter s i)) : w.iterPos k = i := by simp [World.iterPos, h]
/-- The next digit of a number's text. -/
theorem next_digit {w0 wr : World} {k0 : Nat} {s : ByteArray} {i : Nat} {n : Int} {t : Value} {X : List Int} (hs : bytes s = digits n) (hi : i < s.size) (hit : wr.heap[k0]? = some (.stringIter s i)) (hb : Below w0.heap.size w0 wr) (hk : w0.heap.size ≤ k0)
    (hO : Own wr w0.heap.size 21 .i32 t (X ++ (digits n).take i)) :
    ∃ (w5 : World) (d : Int), (∀ ty, (Instr.next (.pointer (some ⟨k0, 0, none⟩)) true ty).run Tryd.prog wr = .ok (.tuple #[.bool true, .int .i64 i, .int .i32 d]) w5) ∧ w5.heap[k0]? = some (.stringIter s (i + 1)) ∧ Below w0.heap.size w0 w5 ∧
      Own w5 w0.heap.size 21 .i32 t (X ++ (digits n).take i) ∧ (digits n).take (i + 1) = (digits n).take i ++ [d] := by
  have hl : i < (digits n).length := by rw [← hs, bytes_len]; exact hi
  have hd : (bytes s).drop i = (digits n)[i] :: (digits n).drop (i + 1) := by rw [hs]; exact List.drop_eq_getElem_cons hl
  have hr := rune_byte (digits n)[i] ((digits n).drop (i + 1)) (digits_dig n _ (List.getElem_mem hl))
  obtain ⟨e1, e2⟩ := decode_rune s i hi
  rw [hd, hr] at e1 e2
  refine ⟨wr.iterAt k0 s (i + 1), (digits n)[i], fun ty => ?_, Go.Lib.iterAt_heap wr k0 s i (i + 1) hit, below_iterAt hb k0 hk s (i + 1), row_iter hO hit (i + 1), List.take_succ_eq_append_getElem hl⟩
  have := Go.Lib.run_next_any_at (P := Tryd.prog) wr k0 s i ty hit hi
  rw [e1, e2] at this
  exact this
theorem putA_le (l : List Int) : (putA l).length ≤ 21 * l.length := by
  induction l with
  | nil => simp [putA]
  | cons n l ih =>
    have hd := digits_le n
    cases l with
    | nil => simp [putA]; omega
    | cons m l =>
      rw [putA, List.length_append, List.length_cons]
      simp only [List.length_cons] at ih ⊢
      omega
theorem nth_mem {l : List Int} {k : Nat} (h : k < l.length) : nth l k ∈ l := by
  unfold nth
  rw [List.getD, List.getElem?_eq_getElem h]
  exact List.getElem_mem h
set_option maxRecDepth 100000 in
set_option maxHeartbeats 8000000 in
theorem withNumbers_any {w0 w : World} {v vn : Value} {rs l : List Int} (hT : Tab w0) (hW : Below w0.heap.size w0 w) (hO : Own w w0.heap.size 21 .i32 v rs) (hn : Ints w0 .u64 vn l) (hU : ∀ n ∈ l, U64 n) (hl : l.length ≤ 1000) (hrs : rs.length ≤ 1000000000) :
    Calls Tryd.prog 18 #[v, vn] w fun e w' => ∃ v', e = .returned v' ∧ Own w' w0.heap.size 21 .i32 v' (rs ++ putA l) ∧ Below w0.heap.size w0 w' := by
  have HT := Lib.hid hT; have HU := Lib.hid hU; have HO := Lib.hid hO
  have hln : (putA l).length ≤ 21 * l.length := putA_le l
  clear hT hU hO
  obtain ⟨an, cn, rfl, hform⟩ := ints_form' hn
  have HF := Lib.hid hform
  clear hn hform
  go_enter Tryd.func18, Tryd.ntmps18
  go_wp2_with fail
  go_loopw [0, 11] (fun t i wr => ∃ k : Nat, k ≤ l.length ∧ i = .int .i64 k ∧ Below w0.heap.size w0 wr ∧ Hid (Own wr w0.heap.size 21 .i32 t (rs ++ putA (l.take k)))) (fun _ i _ => l.length - (intOf i).toNat)
  case atStart => exact ⟨0, Nat.zero_le _, rfl, hW, by simpa [putA] using HO⟩
  case round =>
    obtain ⟨k, hk, rfl, hbr, HR⟩ := hrel
    by_cases hlt : k < l.length
    · obtain ⟨b, off, rfl, hb, hc⟩ := HF.out (by omega)
      have d0 := (hbr.cell (p := ⟨b, off + k, none⟩) hb).trans (hc k hlt)
      have hi1 : (0 : Int) ≤ (k : Int) := by omega
      have hi2 : (k : Int) < (l.length : Int) := by omega
      have hUk : U64 (nth l k) := HU.out _ (nth_mem hlt)
      have HS : Hid (putA (l.take (k + 1)) = putA (l.take k) ++ (if k = 0 then [] else [44]) ++ digits (nth l k)) := by
        unfold Hid
        rw [take_nth l k hlt, putA_snoc]
        congr 2
        by_cases h0 : k = 0
        · subst h0; simp
        · rw [if_neg h0, if_neg (fun e => h0 (by have := congrArg List.length e; rw [List.length_take, List.length_nil] at this; omega))]
      have htk : (putA (l.take k)).length ≤ 21 * k := by have := putA_le (l.take k); rw [List.length_take] at this; omega
      clear hc
      by_cases h0 : k = 0
      · subst h0
        rw [Nat.add_zero] at d0
        have hbW := hbr
        have HOW := HR
        go_wp2_with fail
        refine (fmt_any hUk _ (HT.out.below hbW)).mono ?_
        rintro e w4 ⟨hb4, s, rfl, hs⟩
        have hss : s.size ≤ 20 := by rw [← bytes_len, hs]; exact digits_le _
        have hbw4 := hbW.trans (hb4.mono hbW.size)
        have HO4 := Lib.hid (HOW.out.below hb4)
        have HS4 := Lib.hid hs
        clear hb4 hs hbW HOW hbr HR d0
        go_wp2_with fail
        go_loopw [0] (fun t wv => ∃ i : Nat, i ≤ s.size ∧ wv.heap[w4.heap.size]? = some (.stringIter s i) ∧ Below w0.heap.size w0 wv ∧ Hid (Own wv w0.heap.size 21 .i32 t ((rs ++ putA (l.take 0)) ++ (digits (nth l 0)).take i))) (fun _ wv => s.size - wv.iterPos w4.heap.size)
        case atStart => exact ⟨0, Nat.zero_le _, World.iter_heap w4 s 0, hbw4.alloc hbw4.size _, by
          have h := HO4.out.alloc (Obj.stringIter s 0)
          unfold Hid
          first | exact (show _ from by simpa using h) | (show Own _ _ _ _ _ (_ ++ []); rw [List.append_nil]; exact h) | (show Own _ _ _ _ _ (_ ++ []); rw [List.append_nil, List.append_assoc]; exact h)⟩
        case round =>
          obtain ⟨i, hi, hit, hb2, HI⟩ := hrel
          rw [iterPos_of hit]
          by_cases hlt2 : i < s.size
          · obtain ⟨w5, d, hnx, hit5, hb5, hO5, hd⟩ := next_digit HS4.out hlt2 hit hb2 hbw4.size HI.out
            have HO5 := Lib.hid hO5
            have HD := Lib.hid hd
            have HI5 := Lib.hid hit5
            clear hit hb2 HI hO5 hd hit5
            go_wp2_with (at_builtin; refine own.wpList_push _ rfl _ _ 44 rfl w0.heap.size 21 .i32 (.int .i32 0) 4 Tryd.underlying44 info32 rfl _ _ d rfl (HO5.out.alloc _) ⟨w5.heap.size, 0, none⟩ 1 rfl ?c1 ?c2 (by decide) ?c4 ?_)
            case c1 => exact cell_new _ _ _
            case c2 => have := digits_le (nth l 0); simp only [List.length_append, List.length_take, List.length_singleton, List.length_cons, List.length_nil]; omega
            case c4 => have := hb5.size; simp; omega
            intro v' w6 hown6 hgrow6
            have hit6 := iter_kept (HO5.out.alloc _) (by rw [Below.heap_alloc _ _ _ (lt_of_heap HI5.out)]; exact HI5.out) hgrow6
            have hb6 := below_grown (hb5.alloc hb5.size _) hgrow6 (HO5.out.alloc _) (Nat.le_refl _)
            have HO6 := Lib.hid hown6
            have HI6 := Lib.hid hit6
            clear hown6 hgrow6 hit6
            go_wp2_with fail
            go_roundw
            case rel => exact ⟨i + 1, by omega, HI6.out, hb6, by unfold Hid; rw [HD.out]; have h := HO6.out; simp only [List.append_assoc, List.cons_append, List.nil_append] at h ⊢; exact h⟩
            case measure => rw [iterPos_of HI6.out]; omega
          · obtain rfl : i = s.size := by omega
            have hnx := fun ty => Go.Lib.run_next_end_at (P := Tryd.prog) _ w4.heap.size s s.size ty hit hlt2
            have hfin := HI.out
            rw [← bytes_len, HS4.out, List.take_length] at hfin
            have HFI := Lib.hid hfin
            clear HI hit hfin
            go_wp2_with fail
            go_roundw
            case rel => exact ⟨0 + 1, by omega, by go_num, hb2, by unfold Hid; rw [HS.out]; rw [if_pos trivial]; have h := HFI.out; simp only [List.append_assoc, List.cons_append, List.nil_append] at h ⊢; exact h⟩
            case measure => simp [intOf]; omega
      · have h0i : ((k : Int) > 0) := by omega
        go_wp2_with (at_builtin; refine own.wpList_push _ rfl _ _ 44 rfl w0.heap.size 21 .i32 (.int .i32 0) 4 Tryd.underlying44 info32 rfl _ _ 44 rfl (HR.out.alloc _) ⟨_, 0, none⟩ 1 rfl ?c1 ?c2 (by decide) ?c4 ?_)
        case c1 => exact cell_new _ _ _
        case c2 => simp only [List.length_append]; omega
        case c4 => have := hbr.size; simp; omega
        intro v3 w3 hown3 hgrow3
        have hbW := below_grown (hbr.alloc hbr.size _) hgrow3 (HR.out.alloc _) (Nat.le_refl _)
        have HOW := Lib.hid hown3
        clear hown3 hgrow3
        go_wp2_with fail
        refine (fmt_any hUk _ (HT.out.below hbW)).mono ?_
        rintro e w4 ⟨hb4, s, rfl, hs⟩
        have hss : s.size ≤ 20 := by rw [← bytes_len, hs]; exact digits_le _
        have hbw4 := hbW.trans (hb4.mono hbW.size)
        have HO4 := Lib.hid (HOW.out.below hb4)
        have HS4 := Lib.hid hs
        clear hb4 hs hbW HOW hbr HR d0
        go_wp2_with fail
        go_loopw [0] (fun t wv => ∃ i : Nat, i ≤ s.size ∧ wv.heap[w4.heap.size]? = some (.stringIter s i) ∧ Below w0.heap.size w0 wv ∧ Hid (Own wv w0.heap.size 21 .i32 t ((rs ++ putA (l.take k) ++ [44]) ++ (digits (nth l k)).take i))) (fun _ wv => s.size - wv.iterPos w4.heap.size)
        case atStart => exact ⟨0, Nat.zero_le _, World.iter_heap w4 s 0, hbw4.alloc hbw4.size _, by
          have h := HO4.out.alloc (Obj.stringIter s 0)
          unfold Hid
          first | exact (show _ from by simpa using h) | (show Own _ _ _ _ _ (_ ++ []); rw [List.append_nil]; exact h) | (show Own _ _ _ _ _ (_ ++ []); rw [List.append_nil, List.append_assoc]; exact h)⟩
        case round =>
          obtain ⟨i, hi, hit, hb2, HI⟩ := hrel
          rw [iterPos_of hit]
          by_cases hlt2 : i < s.size
          · obtain ⟨w5, d, hnx, hit5, hb5, hO5, hd⟩ := next_digit HS4.out hlt2 hit hb2 hbw4.size HI.out
            have HO5 := Lib.hid hO5
            have HD := Lib.hid hd
            have HI5 := Lib.hid hit5
            clear hit hb2 HI hO5 hd hit5
            go_wp2_with (at_builtin; refine own.wpList_push _ rfl _ _ 44 rfl w0.heap.size 21 .i32 (.int .i32 0) 4 Tryd.underlying44 info32 rfl _ _ d rfl (HO5.out.alloc _) ⟨w5.heap.size, 0, none⟩ 1 rfl ?c1 ?c2 (by decide) ?c4 ?_)
            case c1 => exact cell_new _ _ _
            case c2 => have := digits_le (nth l k); simp only [List.length_append, List.length_take, List.length_singleton, List.length_cons, List.length_nil]; omega
            case c4 => have := hb5.size; simp; omega
            intro v' w6 hown6 hgrow6
            have hit6 := iter_kept (HO5.out.alloc _) (by rw [Below.heap_alloc _ _ _ (lt_of_heap HI5.out)]; exact HI5.out) hgrow6
            have hb6 := below_grown (hb5.alloc hb5.size _) hgrow6 (HO5.out.alloc _) (Nat.le_refl _)
            have HO6 := Lib.hid hown6
            have HI6 := Lib.hid hit6
            clear hown6 hgrow6 hit6
            go_wp2_with fail
            go_roundw
            case rel => exact ⟨i + 1, by omega, HI6.out, hb6, by unfold Hid; rw [HD.out]; have h := HO6.out; simp only [List.append_assoc, List.cons_append, List.nil_append] at h ⊢; exact h⟩
            case measure => rw [iterPos_of HI6.out]; omega
          · obtain rfl : i = s.size := by omega
            have hnx := fun ty => Go.Lib.run_next_end_at (P := Tryd.prog) _ w4.heap.size s s.size ty hit hlt2
            have hfin := HI.out
            rw [← bytes_len, HS4.out, List.take_length] at hfin
            have HFI := Lib.hid hfin
            clear HI hit hfin
            go_wp2_with fail
            go_roundw
            case rel => exact ⟨k + 1, by omega, by go_num, hb2, by unfold Hid; rw [HS.out]; rw [if_neg h0]; have h := HFI.out; simp only [List.append_assoc, List.cons_append, List.nil_append] at h ⊢; exact h⟩
            case measure => simp [intOf]; omega
    · obtain rfl : k = l.length := by omega
      rw [List.take_length] at HR
      go_wp2_with fail
      go_ret
      exact ⟨_, rfl, HR.out, hbr⟩
end Go.Proofs.YtolampkhohahlaaDoor.g3
