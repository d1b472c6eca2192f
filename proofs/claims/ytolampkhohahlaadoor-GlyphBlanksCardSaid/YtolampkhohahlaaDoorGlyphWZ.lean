/- What the law's 'as' does of entries that stand anywhere, over this seat's program. -/
import Derived.Test.YtolampkhohahlaaDoorGlyphO
import Derived.Deep.RegionHeld3
namespace Go.Proofs.YtolampkhohahlaaDoor.g3
open Go.ChangeShapes Go.WideShapes Go.ChangeAt Go.RowKit frame lift gl own
set_option linter.unusedVariables false
def encZ (q : (Value × Ent) × Int) : List Value := [.int .i64 q.1.2.op, q.1.1, .bool q.1.2.ok, .int .i64 q.2]
theorem encZ_len (q : (Value × Ent) × Int) : (encZ q).length = 4 := rfl
theorem encZ_one (q : (Value × Ent) × Int) (h : ∃ a n c, q.1.1 = .slice a n c) : ∀ u ∈ encZ q, u.oneCell' = true := by
  obtain ⟨a, n, c, h⟩ := h
  intro u hu
  simp only [encZ, h, List.mem_cons, List.not_mem_nil, or_false] at hu
  rcases hu with rfl | rfl | rfl | rfl <;> rfl
theorem newsZ (w : World) {q : (Value × Ent) × Int} (l : List Value) (hl : l = encZ q) : ∀ j u, (encZ q)[j]? = some u → (w.alloc (Obj.cells l.toArray 49)).cell? ((⟨w.heap.size, 0, none⟩ : Addr).add j) = some u := by
  subst hl
  exact fun j u hu => World.news_of_block (heap_alloc_new w _) j u (by simpa using hu)
theorem rowZ_reads {w : World} {B : Nat} {v : Value} {ps : List ((Value × Ent) × Int)} (h : w.ownsRow B 49 4 v ps.length (ps.flatMap encZ)) (hI0 : ∀ p ∈ ps, Ints w .u64 p.1.1 p.1.2.args) : RLoose w v (ps.map (·.1.2)) := by
  by_cases h0 : 0 < ps.length
  · have hr : RowOf w (fun _ => True) 49 4 v ps.length (ps.flatMap encZ) := by
      refine ⟨⟨h.1, ?_⟩, fun _ _ => trivial⟩
      rcases h.2 with h | ⟨g, cap, cur, hv, _, r⟩
      · exact .inl h
      · exact .inr ⟨g, cap, cur, hv, Nat.zero_le _, r⟩
    obtain ⟨g, cap, rfl, _, hlt, h1, h2, hc, _⟩ := hr.at_ h0
    refine .inr ⟨by simpa using h0, g, 0, cap, by simp, by simpa using h1, h2, hlt, fun i hi => ?_⟩
    have hi' : i < ps.length := by simpa using hi
    have hcell (f : Nat) (hf : f < 4) : w.cell? ⟨g, 0 + i * 4 + f, none⟩ = (encZ ps[i])[f]? := by
      rw [Nat.zero_add, hc (i * 4 + f) (by omega)]
      have hgen : ∀ (l : List ((Value × Ent) × Int)) (i : Nat) (hi : i < l.length), (l.flatMap encZ)[i * 4 + f]? = (encZ l[i])[f]? := by
        intro l
        induction l with
        | nil => intro i hi; simp at hi
        | cons p l ih =>
          intro i hi
          rw [List.flatMap_cons]
          cases i with
          | zero =>
            rw [Nat.zero_mul, Nat.zero_add, List.getElem?_append_left (by rw [encZ_len]; exact hf)]
            rfl
          | succ i =>
            rw [List.getElem?_append_right (by rw [encZ_len]; omega), encZ_len, show (i + 1) * 4 + f - 4 = i * 4 + f by omega]
            exact ih i (by simpa using hi)
      exact hgen ps i hi'
    have hI : Ints w .u64 ps[i].1.1 ps[i].1.2.args := hI0 ps[i] (List.getElem_mem hi')
    refine ⟨ps[i].1.1, ?_, ?_, ?_, ⟨ps[i].2, ?_⟩, ?_⟩
    · simpa [encZ] using hcell 0 (by decide)
    · simpa [encZ] using hcell 1 (by decide)
    · simpa [encZ] using hcell 2 (by decide)
    · simpa [encZ] using hcell 3 (by decide)
    · simpa using hI
  · have e : ps = [] := List.eq_nil_of_length_eq_zero (by omega)
    subst e
    refine .inl ⟨rfl, ?_⟩
    rcases h.2 with ⟨hn, _⟩ | ⟨g', cap', _, hv, _⟩
    · exact ⟨_, _, hn⟩
    · exact ⟨_, _, hv⟩
def AsPostZ (w : World) (l : List Ent) (e : Ending) (w' : World) : Prop := Below w.heap.size w w' ∧ ∃ v, e = .returned v ∧ RLoose w' v l
def WRelZ (w : World) (l : List Ent) (k : Nat) (v : Value) (wr : World) : Prop := ∃ ps : List ((Value × Ent) × Int), ps.map (·.1.2) = l.take k ∧ wr.ownsRow w.heap.size 49 4 v ps.length (ps.flatMap encZ) ∧ (∀ p ∈ ps, Ints w .u64 p.1.1 p.1.2.args) ∧ Below w.heap.size w wr
set_option maxHeartbeats 4000000 in
theorem as_loose {v : Value} {l : List Ent} (w : World) (h : GLoose w v l) (hL : l.length ≤ 100000) (hop : ∀ e ∈ l, -2147483648 ≤ e.op ∧ e.op ≤ 2147483647) : Calls Tryd.prog 11 #[v] w (AsPostZ w l) := by
  have HOP := Lib.hid hop; clear hop
  rcases h with ⟨rfl, aa, cap, rfl⟩ | ⟨h0, g, o, cap, rfl, hcap, hmax, hg, hc⟩
  · go_enter Tryd.func11, Tryd.ntmps11
    go_wp2_with fail
    refine wp_loop_rounds 1 ?_
    rw [rounds_succ]
    go_wp2_with fail
    go_ret
    exact ⟨Below.refl _ _, _, rfl, .inl ⟨rfl, _, _, rfl⟩⟩
  · have HC := Lib.hid hc; clear hc
    unfold maxLen at hmax
    obtain ⟨i0, hi, hz0, hz1, hz2⟩ := info_parts infoE
    have J1 := Lib.hid hi; have J2 := Lib.hid hz0; have J3 := Lib.hid hz1; have J4 := Lib.hid hz2; clear hi hz0 hz1 hz2
    go_enter Tryd.func11, Tryd.ntmps11
    go_wp2_with fail
    go_loopw [3, 4] (fun v i wr => ∃ k : Nat, k ≤ l.length ∧ i = .int .i64 k ∧ WRelZ w l k v wr) (fun _ i _ => l.length - (intOf i).toNat)
    case atStart => exact ⟨0, Nat.zero_le _, rfl, [], rfl, World.ownsRow_nil _ _ _ _, fun p hp => by simp at hp, Below.refl _ _⟩
    case round =>
      obtain ⟨k, hk, rfl, ps, hps, hown, hints, hbr⟩ := hrel
      have HP := Lib.hid hps; have HI := Lib.hid hints
      by_cases hlt : k < l.length
      · obtain ⟨av, d0, d1, d2, ⟨zz, d3⟩, hav⟩ := HC.out k hlt
        have tt : ∀ j, wr.cell? ⟨g, j, none⟩ = w.cell? ⟨g, j, none⟩ := fun j => hbr.cell (p := ⟨g, j, none⟩) hg
        have D0 := Lib.hid d0; have D1 := Lib.hid d1; have D2 := Lib.hid d2; have D3 := Lib.hid d3
        rw [← tt] at d0 d1 d2 d3
        have HAV := Lib.hid hav
        obtain ⟨a7, n7, c7, rfl⟩ : ∃ a n c, av = .slice a n c := by
          rcases hav with ⟨e, a, c, rfl⟩ | ⟨_, b, o, c, rfl, _⟩
          · exact ⟨_, _, _, rfl⟩
          · exact ⟨_, _, _, rfl⟩
        have hpl : ps.length = k := by
          have := congrArg List.length hps
          rw [List.length_map, List.length_take] at this
          omega
        have HO : Hid (wr.drew.ownsRow w.heap.size 49 4 u3 ps.length (ps.flatMap encZ)) := hown.drew
        have HPL := Lib.hid hpl
        have hop1 := HOP.out l[k] (List.getElem_mem hlt)
        obtain ⟨hop1a, hop1b⟩ := hop1
        clear tt hav hown hps hints hpl
        have hi1 : (0 : Int) ≤ (k : Int) := by omega
        have hi2 : (k : Int) < (l.length : Int) := by omega
        have hwr : IntKind.i64.wrap l[k].op = l[k].op := IntWalk.i64_in _ (by omega)
        have HBR := Lib.hid hbr
        have hq1 : ps.length + 1 ≤ maxLen := by simp only [maxLen]; have := HPL.out; omega
        have hq2 : (ps.length + 1) * 48 ≤ 140737488355328 := by have := HPL.out; omega
        have hq3 : w.heap.size ≤ wr.heap.size + 1 := by have := hbr.size; omega
        have hq3' : w.heap.size ≤ (wr.drew.alloc (Obj.cells (encZ ((Value.slice a7 n7 c7, l[k]), zz)).toArray 49)).heap.size := by simpa using hq3
        have hgl : g < wr.heap.size := Nat.lt_of_lt_of_le hg hbr.size
        go_wp2_with fail
        go_region_held3 (fun w' => w'.cell? ⟨g, o + k * 4, none⟩ = some (.int .i32 l[k].op) ∧ w'.cell? ⟨g, o + k * 4 + 1, none⟩ = some (.slice a7 n7 c7) ∧ w'.cell? ⟨g, o + k * 4 + 2, none⟩ = some (.bool l[k].ok) ∧ w'.cell? ⟨g, o + k * 4 + 3, none⟩ = some (.int .i64 zz)) (go_keep) ((refine step_append_lies _ rfl _ _ 31 rfl w.heap.size 49 i0 _ 4 48 Tryd.underlying31 J1.out J2.out J3.out J4.out rfl (by decide) _ ps.length _ rfl (World.ownsRow.alloc HO.out _) ⟨wr.heap.size, 0, none⟩ 1 1 (encZ ((Value.slice a7 n7 c7, l[k]), zz)) rfl rfl (newsZ wr.drew _ rfl) (encZ_one _ ⟨_, _, _, rfl⟩) (by decide) hq1 hq2 (by simpa using hq3) (wr.heap.size + 1) (by simp) ?_; intro g9 cap9 w6 hown6 hgrow6 hat6 hlt6; (have hb6 : Below w.heap.size w w6 := (HBR.out.drew.alloc HBR.out.size _).grown hgrow6 hq3' (fun g hg => (World.ownsRow.lt HO.out g hg).1)); (have q0 := (hb6.cell (p := ⟨g, o + k * 4, none⟩) hg).trans D0.out); (have q1 := (hb6.cell (p := ⟨g, o + k * 4 + 1, none⟩) hg).trans D1.out); (have q2 := (hb6.cell (p := ⟨g, o + k * 4 + 2, none⟩) hg).trans D2.out); (have q3 := (hb6.cell (p := ⟨g, o + k * 4 + 3, none⟩) hg).trans D3.out); (have HO6 := Lib.hid hown6); (have HB6 := Lib.hid hb6); clear hown6 hgrow6 hat6 hb6))
        all_goals
          have HE : Hid ((ps ++ [((Value.slice a7 n7 c7, l[k]), zz)]).map (·.1.2) = l.take (k + 1)) := by
            unfold Hid
            rw [List.map_append, HP.out, List.take_succ_eq_append_getElem hlt]
            rfl
          have HE2 : Hid (∀ p ∈ ps ++ [((Value.slice a7 n7 c7, l[k]), zz)], Ints w .u64 p.1.1 p.1.2.args) := fun p hp => by
            rcases List.mem_append.1 hp with hp | hp
            · exact HI.out p hp
            · simp at hp
              subst hp
              exact HAV.out
          clear hwr
          go_wp2_with fail
          go_roundw
          case rel => exact ⟨k + 1, by omega, by go_num, _, HE.out, by simpa using HO6.out, HE2.out, HB6.out⟩
          case measure => simp [intOf]; omega
      · obtain rfl : k = l.length := by omega
        have HR : Hid (RLoose wr u3 l) := by
          have h := rowZ_reads hown (fun p hp => (hints p hp).below hbr)
          rw [hps, List.take_length] at h
          exact h
        clear hps hown hints
        go_wp2_with fail
        go_ret
        exact ⟨hbr, _, rfl, HR.out⟩
end Go.Proofs.YtolampkhohahlaaDoor.g3
