/- What the law's 'as' does (entries of package glyph, as the reference has them), over this seat's program. -/
import Derived.Test.YtolampkhohahlaaDoorGlyphB
import Derived.Deep.RegionHeld3
namespace Go.Proofs.YtolampkhohahlaaDoor.g3
open Go.ChangeShapes Go.WideShapes Go.ChangeAt Go.RowKit frame lift gl own
set_option linter.unusedVariables false
theorem GEnts.below {w w' : World} {v : Value} {l : List Ent} (h : GEnts w v l) (hb : Below w.heap.size w w') : GEnts w' v l := by
  rcases h with h | ⟨h0, g, o, cap, h1, h2, h3, h4, h5⟩
  · exact .inl h
  · refine .inr ⟨h0, g, o, cap, h1, h2, h3, Nat.lt_of_lt_of_le h4 hb.size, fun i hi => ?_⟩
    obtain ⟨av, d0, d1, d2, d3, d4⟩ := h5 i hi
    have t : ∀ j, w'.cell? ⟨g, j, none⟩ = w.cell? ⟨g, j, none⟩ := fun j => hb.cell (p := ⟨g, j, none⟩) h4
    exact ⟨av, (t _).trans d0, (t _).trans d1, (t _).trans d2, (t _).trans d3, d4.below hb⟩
/-- Entries, as the reference has them, in a row of the call's own (their numbers lie elsewhere). -/
def AsRow (w : World) (B : Nat) (v : Value) (l : List Ent) : Prop := ∃ ps : List (Value × Ent), ps.map (·.2) = l ∧ w.ownsRow B 49 4 v ps.length (ps.flatMap encE) ∧ ∀ p ∈ ps, Ints w .u64 p.1 p.2.args
theorem AsRow.reads {w : World} {B : Nat} {v : Value} {l : List Ent} (h : AsRow w B v l) : REnts w v l := by
  obtain ⟨ps, rfl, h1, h2⟩ := h
  exact row_reads h1 h2
theorem AsRow.below {w w' : World} {B : Nat} {v : Value} {l : List Ent} (h : AsRow w B v l) (hb : Below w.heap.size w w') : AsRow w' B v l := by
  obtain ⟨ps, h0, h1, h2⟩ := h
  refine ⟨ps, h0, ?_, fun p hp => (h2 p hp).below hb⟩
  obtain ⟨h3, h4 | ⟨g, cap, cur, hv, hg, hh, r⟩⟩ := h1
  · exact ⟨h3, .inl h4⟩
  · exact ⟨h3, .inr ⟨g, cap, cur, hv, hg, by rw [hb.block g (Array.getElem?_eq_some_iff.1 hh).1]; exact hh, r⟩⟩
def AsPost (w : World) (l : List Ent) (e : Ending) (w' : World) : Prop := Below w.heap.size w w' ∧ ∃ v, e = .returned v ∧ AsRow w' w.heap.size v l
def WRel (w : World) (l : List Ent) (k : Nat) (v : Value) (wr : World) : Prop := ∃ ps : List (Value × Ent), ps.map (·.2) = l.take k ∧ wr.ownsRow w.heap.size 49 4 v ps.length (ps.flatMap encE) ∧ (∀ p ∈ ps, Ints w .u64 p.1 p.2.args) ∧ Below w.heap.size w wr
set_option maxHeartbeats 4000000 in
theorem as_any {v : Value} {l : List Ent} (w : World) (h : GEnts w v l) (hL : l.length ≤ 100000) (hop : ∀ e ∈ l, -2147483648 ≤ e.op ∧ e.op ≤ 2147483647) : Calls Tryd.prog 11 #[v] w (AsPost w l) := by
  have HOP := Lib.hid hop; clear hop
  rcases h with ⟨rfl, aa, cap, rfl⟩ | ⟨h0, g, o, cap, rfl, hcap, hmax, hg, hc⟩
  · go_enter Tryd.func11, Tryd.ntmps11
    go_wp2_with fail
    refine wp_loop_rounds 1 ?_
    rw [rounds_succ]
    go_wp2_with fail
    go_ret
    exact ⟨Below.refl _ _, _, rfl, [], rfl, World.ownsRow_nil _ _ _ _, fun p hp => by simp at hp⟩
  · have HC := Lib.hid hc; clear hc
    unfold maxLen at hmax
    obtain ⟨i0, hi, hz0, hz1, hz2⟩ := info_parts infoE
    have J1 := Lib.hid hi; have J2 := Lib.hid hz0; have J3 := Lib.hid hz1; have J4 := Lib.hid hz2; clear hi hz0 hz1 hz2
    go_enter Tryd.func11, Tryd.ntmps11
    go_wp2_with fail
    go_loopw [3, 4] (fun v i wr => ∃ k : Nat, k ≤ l.length ∧ i = .int .i64 k ∧ WRel w l k v wr) (fun _ i _ => l.length - (intOf i).toNat)
    case atStart => exact ⟨0, Nat.zero_le _, rfl, [], rfl, World.ownsRow_nil _ _ _ _, fun p hp => by simp at hp, Below.refl _ _⟩
    case round =>
      obtain ⟨k, hk, rfl, ps, hps, hown, hints, hbr⟩ := hrel
      have HP := Lib.hid hps; have HI := Lib.hid hints
      by_cases hlt : k < l.length
      · obtain ⟨av, d0, d1, d2, d3, hav⟩ := HC.out k hlt
        have tt : ∀ j, wr.cell? ⟨g, j, none⟩ = w.cell? ⟨g, j, none⟩ := fun j => hbr.cell (p := ⟨g, j, none⟩) hg
        have D0 := Lib.hid d0; have D1 := Lib.hid d1; have D2 := Lib.hid d2; have D3 := Lib.hid d3
        rw [← tt] at d0 d1 d2 d3
        have HAV := Lib.hid hav
        obtain ⟨a7, n7, c7, rfl⟩ : ∃ a n c, av = .slice a n c := by
          rcases hav with ⟨e, a, c, rfl⟩ | ⟨_, b, o, c, rfl, _⟩
          · exact ⟨_, _, _, rfl⟩
          · exact ⟨_, _, _, rfl⟩
        have hpl : ps.length = k := by
          have := congrArg List.length hps
          rw [List.length_map, List.length_take] at this
          omega
        have HO : Hid (wr.drew.ownsRow w.heap.size 49 4 u3 ps.length (ps.flatMap encE)) := hown.drew
        have HPL := Lib.hid hpl
        have hop1 := HOP.out l[k] (List.getElem_mem hlt)
        obtain ⟨hop1a, hop1b⟩ := hop1
        clear tt hav hown hps hints hpl
        have hi1 : (0 : Int) ≤ (k : Int) := by omega
        have hi2 : (k : Int) < (l.length : Int) := by omega
        have hwr : IntKind.i64.wrap l[k].op = l[k].op := IntWalk.i64_in _ (by omega)
        have HBR := Lib.hid hbr
        have hq1 : ps.length + 1 ≤ maxLen := by simp only [maxLen]; have := HPL.out; omega
        have hq2 : (ps.length + 1) * 48 ≤ 140737488355328 := by have := HPL.out; omega
        have hq3 : w.heap.size ≤ wr.heap.size + 1 := by have := hbr.size; omega
        have hq3' : w.heap.size ≤ (wr.drew.alloc (Obj.cells (encE (Value.slice a7 n7 c7, l[k])).toArray 49)).heap.size := by simpa using hq3
        have hgl : g < wr.heap.size := Nat.lt_of_lt_of_le hg hbr.size
        go_wp2_with fail
        go_region_held3 (fun w' => w'.cell? ⟨g, o + k * 4, none⟩ = some (.int .i32 l[k].op) ∧ w'.cell? ⟨g, o + k * 4 + 1, none⟩ = some (.slice a7 n7 c7) ∧ w'.cell? ⟨g, o + k * 4 + 2, none⟩ = some (.bool l[k].ok) ∧ w'.cell? ⟨g, o + k * 4 + 3, none⟩ = some (.int .i64 l[k].at_)) (go_keep) ((refine step_append_lies _ rfl _ _ 31 rfl w.heap.size 49 i0 _ 4 48 Tryd.underlying31 J1.out J2.out J3.out J4.out rfl (by decide) _ ps.length _ rfl (World.ownsRow.alloc HO.out _) ⟨wr.heap.size, 0, none⟩ 1 1 (encE (Value.slice a7 n7 c7, l[k])) rfl rfl (newsE wr.drew _ rfl) (encE_one _ ⟨_, _, _, rfl⟩) (by decide) hq1 hq2 (by simpa using hq3) (wr.heap.size + 1) (by simp) ?_; intro g9 cap9 w6 hown6 hgrow6 hat6 hlt6; (have hb6 : Below w.heap.size w w6 := (HBR.out.drew.alloc HBR.out.size _).grown hgrow6 hq3' (fun g hg => (World.ownsRow.lt HO.out g hg).1)); (have q0 := (hb6.cell (p := ⟨g, o + k * 4, none⟩) hg).trans D0.out); (have q1 := (hb6.cell (p := ⟨g, o + k * 4 + 1, none⟩) hg).trans D1.out); (have q2 := (hb6.cell (p := ⟨g, o + k * 4 + 2, none⟩) hg).trans D2.out); (have q3 := (hb6.cell (p := ⟨g, o + k * 4 + 3, none⟩) hg).trans D3.out); (have HO6 := Lib.hid hown6); (have HB6 := Lib.hid hb6); clear hown6 hgrow6 hat6 hb6))
        all_goals
          have HE : Hid ((ps ++ [(Value.slice a7 n7 c7, l[k])]).map (·.2) = l.take (k + 1)) := by
            unfold Hid
            rw [List.map_append, HP.out, List.take_succ_eq_append_getElem hlt]
            rfl
          have HE2 : Hid (∀ p ∈ ps ++ [(Value.slice a7 n7 c7, l[k])], Ints w .u64 p.1 p.2.args) := fun p hp => by
            rcases List.mem_append.1 hp with hp | hp
            · exact HI.out p hp
            · simp at hp
              subst hp
              exact HAV.out
          clear hwr
          go_wp2_with fail
          go_roundw
          case rel => exact ⟨k + 1, by omega, by go_num, _, HE.out, by simpa using HO6.out, HE2.out, HB6.out⟩
          case measure => simp [intOf]; omega
      · obtain rfl : k = l.length := by omega
        have HR : Hid (AsRow wr w.heap.size u3 l) := ⟨ps, by rw [hps, List.take_length], hown, fun p hp => (hints p hp).below hbr⟩
        clear hps hown hints
        go_wp2_with fail
        go_ret
        exact ⟨hbr, _, rfl, HR.out⟩
end Go.Proofs.YtolampkhohahlaaDoor.g3
