/- What the five laws' rows give of the library's tables; their parameters, opened; over this seat's program. -/
import Derived.Test.YtolampkhohahlaaDoorGlyphMd
import Derived.Test.YtolampkhohahlaaDoorOpens
import Derived.Lib.LaidTab
import Derived.LaidMore
import Derived.MakeChecks
import Derived.OpenShut
import Derived.Stop.Joined
import Derived.ProofKit
namespace Go.Proofs.YtolampkhohahlaaDoor.g3
open Go.ChangeShapes Go.WideShapes Go.ChangeAt Go.RowKit frame lift gl own
set_option linter.unusedVariables false
abbrev laidL : List (String × DataW Unit) := Rows.glyphTellsRow.laid
theorem tab_datum : (Rows.laid_internal_strconv_uint64pow10 : DataW Unit) = Go.Lib.tabData .u64 Go.Lib.pow10Tab := by kernel_rfl
theorem tab_of_laid {W : World} (h : laidMetH Tryd.prog laidL W) : Tab W := by
  rw [MakeChecks.laidMetH_plain _ _ _ (by kernel_rfl)] at h
  obtain ⟨ps, ⟨g0, t0, cs0, f0, p0, q0, _, _, _, _, ⟨g1, t1, cs1, f1, p1, q1, _, _, _, _, hl2, rfl⟩, rfl⟩, hn, hc⟩ := h
  rw [tab_datum] at hl2
  refine Go.Lib.tabIs_of_head (P := Tryd.prog) (W := W) (k := .u64) (zs := Go.Lib.pow10Tab) (rest := []) (g := 0) (t := 84) (e := 47) (n := 20) (by kernel_rfl) (by kernel_rfl) Tryd.underlying84 Tryd.underlying47 (by kernel_rfl) (by kernel_rfl)
    ⟨q1, hl2, ?_, fun b off hp => hc b off (List.mem_append_right _ (List.mem_append_right _ hp))⟩
  exact (List.nodup_append.1 (List.nodup_append.1 hn).2.1).2.1
set_option maxRecDepth 100000 in
theorem door_met (os : Os) (args : Array Value) : laidMetH Tryd.prog laidL ((World.doorLaid Tryd.prog 400 os).forCall (fun _ _ => 0) ⟨#[], args, []⟩).memory :=
  laidMetH_of_parts3 (fuel := 8) (laidMet_of_run' 8 (by kernel_rfl) (by kernel_rfl)) (by kernel_rfl) (by kernel_rfl)
end Go.Proofs.YtolampkhohahlaaDoor.g3
