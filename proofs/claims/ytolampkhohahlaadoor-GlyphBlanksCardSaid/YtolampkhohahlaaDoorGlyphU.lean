/- Contracts of package hatstandref3, on: utf8, Digits, over this seat's program. -/
import Derived.Test.YtolampkhohahlaaDoorGlyphA
import Derived.Laws.BytesArg
namespace Go.Proofs.YtolampkhohahlaaDoor.g3
open Go.ChangeShapes Go.WideShapes Go.ChangeAt Go.RowKit frame lift gl own
set_option linter.unusedVariables false
theorem conv_new (w : World) (xs : List Int) : (convert 64 9 (.slice (some ⟨w.heap.size, 0, none⟩) xs.length xs.length)).run Tryd.prog (w.alloc (Obj.cells (xs.map (Value.int .u8)).toArray 5)) = .ok (.string (strOfNums xs)) (w.alloc (Obj.cells (xs.map (Value.int .u8)).toArray 5)) :=
  run_convert_bytes_arg _ 64 5 Tryd.underlying64 Tryd.underlying5 w.heap.size 0 xs.length xs.length xs rfl (fun i hi => by
    rw [Nat.zero_add, cell_of_row _ _ i _ _ _ (heap_alloc_new w _)]
    simp [List.getD, hi]) 9 Tryd.underlying9
theorem utf8_byt (r : Int) (h0 : 0 ≤ r) (h1 : r ≤ 1114111) : ∀ b ∈ utf8 r, Byt b := by
  unfold utf8 Byt
  split
  · simp; omega
  · split
    · simp; omega
    · split
      · simp; omega
      · simp; omega
theorem utf8_a (r : Int) (h0 : 0 ≤ r) (h1 : r ≤ 1114111) (w : World) (c1 : r < 128) : Calls Tryd.prog 21 #[.int .i64 r] w (StrPost w (utf8 r)) := by
  have hu : utf8 r = [r] := by unfold utf8; rw [if_pos c1]
  have H : Hid (bytes (strOfNums [r]) = utf8 r) := by unfold Hid; rw [← hu]; exact bytes_nums _ (utf8_byt r h0 h1)
  have hcv := conv_new w [r]
  simp only [List.map_cons, List.map_nil, List.length_cons, List.length_nil, Nat.zero_add, Nat.reduceAdd] at hcv
  clear hu
  go_enter Tryd.func21, Tryd.ntmps21
  go_wp2_with fail
  go_ret
  exact ⟨(Below.refl _ _).alloc (Nat.le_refl _) _, _, rfl, H.out⟩
theorem utf8_b (r : Int) (h0 : 0 ≤ r) (h1 : r ≤ 1114111) (w : World) (c1 : 128 ≤ r) (c2 : r < 2048) : Calls Tryd.prog 21 #[.int .i64 r] w (StrPost w (utf8 r)) := by
  have hu : utf8 r = [192 + r / 64, 128 + r % 64] := by unfold utf8; rw [if_neg (by omega), if_pos c2]
  have H : Hid (bytes (strOfNums [192 + r / 64, 128 + r % 64]) = utf8 r) := by unfold Hid; rw [← hu]; exact bytes_nums _ (utf8_byt r h0 h1)
  have hcv := conv_new w [192 + r / 64, 128 + r % 64]
  simp only [List.map_cons, List.map_nil, List.length_cons, List.length_nil, Nat.zero_add, Nat.reduceAdd] at hcv
  clear hu
  go_enter Tryd.func21, Tryd.ntmps21
  go_wp2_with fail
  go_ret
  exact ⟨(Below.refl _ _).alloc (Nat.le_refl _) _, _, rfl, H.out⟩
theorem utf8_c (r : Int) (h0 : 0 ≤ r) (h1 : r ≤ 1114111) (w : World) (c1 : 2048 ≤ r) (c2 : r < 65536) : Calls Tryd.prog 21 #[.int .i64 r] w (StrPost w (utf8 r)) := by
  have hu : utf8 r = [224 + r / 4096, 128 + r / 64 % 64, 128 + r % 64] := by unfold utf8; rw [if_neg (by omega), if_neg (by omega), if_pos c2]
  have H : Hid (bytes (strOfNums [224 + r / 4096, 128 + r / 64 % 64, 128 + r % 64]) = utf8 r) := by unfold Hid; rw [← hu]; exact bytes_nums _ (utf8_byt r h0 h1)
  have hcv := conv_new w [224 + r / 4096, 128 + r / 64 % 64, 128 + r % 64]
  simp only [List.map_cons, List.map_nil, List.length_cons, List.length_nil, Nat.zero_add, Nat.reduceAdd] at hcv
  clear hu
  go_enter Tryd.func21, Tryd.ntmps21
  go_wp2_with fail
  go_ret
  exact ⟨(Below.refl _ _).alloc (Nat.le_refl _) _, _, rfl, H.out⟩
theorem utf8_d (r : Int) (h0 : 0 ≤ r) (h1 : r ≤ 1114111) (w : World) (c1 : 65536 ≤ r) : Calls Tryd.prog 21 #[.int .i64 r] w (StrPost w (utf8 r)) := by
  have hu : utf8 r = [240 + r / 262144, 128 + r / 4096 % 64, 128 + r / 64 % 64, 128 + r % 64] := by unfold utf8; rw [if_neg (by omega), if_neg (by omega), if_neg (by omega)]
  have H : Hid (bytes (strOfNums [240 + r / 262144, 128 + r / 4096 % 64, 128 + r / 64 % 64, 128 + r % 64]) = utf8 r) := by unfold Hid; rw [← hu]; exact bytes_nums _ (utf8_byt r h0 h1)
  have hcv := conv_new w [240 + r / 262144, 128 + r / 4096 % 64, 128 + r / 64 % 64, 128 + r % 64]
  simp only [List.map_cons, List.map_nil, List.length_cons, List.length_nil, Nat.zero_add, Nat.reduceAdd] at hcv
  clear hu
  go_enter Tryd.func21, Tryd.ntmps21
  go_wp2_with fail
  go_ret
  exact ⟨(Below.refl _ _).alloc (Nat.le_refl _) _, _, rfl, H.out⟩
theorem utf8_any (r : Int) (h0 : 0 ≤ r) (h1 : r ≤ 1114111) (w : World) : Calls Tryd.prog 21 #[.int .i64 r] w (StrPost w (utf8 r)) := by
  by_cases c1 : r < 128
  · exact utf8_a r h0 h1 w c1
  · by_cases c2 : r < 2048
    · exact utf8_b r h0 h1 w (by omega) c2
    · by_cases c3 : r < 65536
      · exact utf8_c r h0 h1 w (by omega) c3
      · exact utf8_d r h0 h1 w (by omega)
end Go.Proofs.YtolampkhohahlaaDoor.g3
