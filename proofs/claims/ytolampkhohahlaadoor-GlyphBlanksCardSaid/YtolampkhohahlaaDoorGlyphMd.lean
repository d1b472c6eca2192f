/- What the law's 'pick' and 'made' do, over this seat's program. -/
import Derived.Test.YtolampkhohahlaaDoorGlyphC
import Derived.Test.YtolampkhohahlaaDoorGlyphO
import Derived.Test.YtolampkhohahlaaDoorGlyphY
import Derived.Deep.Cut
namespace Go.Proofs.YtolampkhohahlaaDoor.g3
open Go.ChangeShapes Go.WideShapes Go.ChangeAt Go.RowKit frame lift gl own
set_option linter.unusedVariables false
def pickI (c n : Int) : Int := (if c < 0 then -(c + 1) else c) % n
theorem pickI_bd (c n : Int) (hn : 0 < n) : 0 ≤ pickI c n ∧ pickI c n < n := ⟨Int.emod_nonneg _ (by omega), Int.emod_lt_of_pos _ hn⟩
def I64 (x : Int) : Prop := -9223372036854775808 ≤ x ∧ x ≤ 9223372036854775807
theorem pick_any (c n : Int) (hc : I64 c) (hn : 0 < n) (hn' : n ≤ 9223372036854775807) (w : World) :
    Calls Tryd.prog 16 #[.int .i64 c, .int .i64 n] w fun e w' => e = .returned (.int .i64 (pickI c n)) ∧ w = w' := by
  obtain ⟨h0, h1⟩ := hc
  by_cases h : c < 0
  · have H1 : Hid (pickI c n = -((c + 1).tmod n)) := by
      unfold Hid pickI
      rw [if_pos h, ← Int.tmod_eq_emod_of_nonneg (by omega), Int.neg_tmod]
    go_enter Tryd.func16, Tryd.ntmps16
    go_wp2_with fail
    go_ret
    rw [H1.out]
    exact ⟨rfl, rfl⟩
  · have H1 : Hid (pickI c n = c % n) := by simp [Hid, pickI, h]
    go_enter Tryd.func16, Tryd.ntmps16
    go_wp2_with fail
    go_ret
    rw [H1.out]
    exact ⟨rfl, rfl⟩
/-- Entries of package glyph in a row of the call's own; their numbers were there in an elder world. -/
def GRowW (W0 w : World) (B : Nat) (v : Value) (l : List Ent) : Prop := ∃ ps : List (Value × Ent), ps.map (·.2) = l ∧ w.ownsRow B 26 4 v ps.length (ps.flatMap encG) ∧ ∀ p ∈ ps, Ints W0 .u64 p.1 p.2.args
theorem flatMapG_at (ps : List (Value × Ent)) (i f : Nat) (hi : i < ps.length) (hf : f < 4) : (ps.flatMap encG)[i * 4 + f]? = (encG ps[i])[f]? := by
  induction ps generalizing i with
  | nil => simp at hi
  | cons p l ih =>
    rw [List.flatMap_cons]
    cases i with
    | zero =>
      rw [Nat.zero_mul, Nat.zero_add, List.getElem?_append_left (by rw [encG_len]; exact hf)]
      rfl
    | succ i =>
      rw [List.getElem?_append_right (by rw [encG_len]; omega), encG_len, show (i + 1) * 4 + f - 4 = i * 4 + f by omega]
      exact ih i (by simpa using hi)
theorem GRowW.reads {W0 w : World} {B : Nat} {v : Value} {l : List Ent} (h : GRowW W0 w B v l) (hb : Below W0.heap.size W0 w) : GEnts w v l := by
  obtain ⟨ps, rfl, h, hI0⟩ := h
  by_cases h0 : 0 < ps.length
  · have hr : RowOf w (fun _ => True) 26 4 v ps.length (ps.flatMap encG) := by
      refine ⟨⟨h.1, ?_⟩, fun _ _ => trivial⟩
      rcases h.2 with h | ⟨g, cap, cur, hv, _, r⟩
      · exact .inl h
      · exact .inr ⟨g, cap, cur, hv, Nat.zero_le _, r⟩
    obtain ⟨g, cap, rfl, _, hlt, h1, h2, hc, _⟩ := hr.at_ h0
    refine .inr ⟨by simpa using h0, g, 0, cap, by simp, by simpa using h1, h2, hlt, fun i hi => ?_⟩
    have hi' : i < ps.length := by simpa using hi
    have hcell (f : Nat) (hf : f < 4) : w.cell? ⟨g, 0 + i * 4 + f, none⟩ = (encG ps[i])[f]? := by
      rw [Nat.zero_add, hc (i * 4 + f) (by omega)]
      exact flatMapG_at ps i f hi' hf
    have hI : Ints w .u64 ps[i].1 ps[i].2.args := (hI0 ps[i] (List.getElem_mem hi')).below hb
    refine ⟨ps[i].1, ?_, ?_, ?_, ?_, ?_⟩
    · simpa [encG] using hcell 0 (by decide)
    · simpa [encG] using hcell 1 (by decide)
    · simpa [encG] using hcell 2 (by decide)
    · simpa [encG] using hcell 3 (by decide)
    · simpa using hI
  · have e : ps = [] := List.eq_nil_of_length_eq_zero (by omega)
    subst e
    refine .inl ⟨rfl, ?_⟩
    rcases h.2 with ⟨hn, _⟩ | ⟨g', cap', _, hv, _⟩
    · exact ⟨_, _, hn⟩
    · exact ⟨_, _, hv⟩
theorem GRowW.below {W0 w w' : World} {B : Nat} {v : Value} {l : List Ent} (h : GRowW W0 w B v l) (hb : Below w.heap.size w w') : GRowW W0 w' B v l := by
  obtain ⟨ps, h0, ⟨h3, h4⟩, h2⟩ := h
  refine ⟨ps, h0, ⟨h3, ?_⟩, h2⟩
  rcases h4 with h4 | ⟨g, cap, cur, hv, hg, hh, r⟩
  · exact .inl h4
  · exact .inr ⟨g, cap, cur, hv, hg, by rw [hb.block g (Array.getElem?_eq_some_iff.1 hh).1]; exact hh, r⟩
/-- Rows of whole numbers that can be read. -/
def IntRows (w : World) (v : Value) (ls : List (List Int)) : Prop :=
  (ls = [] ∧ ∃ (a : Option Addr) (cap : Nat), v = .slice a 0 cap) ∨
  (0 < ls.length ∧ ∃ (g o cap : Nat), v = .slice (some ⟨g, o, none⟩) ls.length cap ∧ ls.length ≤ cap ∧ cap ≤ maxLen ∧ g < w.heap.size ∧ ∀ (i : Nat) (h : i < ls.length), ∃ av, w.cell? ⟨g, o + i, none⟩ = some av ∧ Ints w .u64 av ls[i])
theorem IntRows.form {w : World} {v : Value} {ls : List (List Int)} (h : IntRows w v ls) : ∃ a cap, v = .slice a ls.length cap ∧ (0 < ls.length → ∃ g o, a = some ⟨g, o, none⟩ ∧ g < w.heap.size ∧ ∀ (i : Nat) (h : i < ls.length), ∃ av, w.cell? ⟨g, o + i, none⟩ = some av ∧ Ints w .u64 av ls[i]) := by
  rcases h with ⟨rfl, a, cap, rfl⟩ | ⟨h0, g, o, cap, rfl, _, _, hg, hc⟩
  · exact ⟨a, cap, rfl, fun h => by simp at h⟩
  · exact ⟨_, cap, rfl, fun _ => ⟨g, o, rfl, hg, hc⟩⟩
theorem IntRows.below {w w' : World} {v : Value} {ls : List (List Int)} (h : IntRows w v ls) (hb : Below w.heap.size w w') : IntRows w' v ls := by
  rcases h with h | ⟨h0, g, o, cap, h1, h2, h3, h4, h5⟩
  · exact .inl h
  · refine .inr ⟨h0, g, o, cap, h1, h2, h3, Nat.lt_of_lt_of_le h4 hb.size, fun i hi => ?_⟩
    obtain ⟨av, d0, d1⟩ := h5 i hi
    exact ⟨av, (hb.cell (p := ⟨g, o + i, none⟩) h4).trans d0, d1.below hb⟩
theorem ints64_form {w : World} {v : Value} {l : List Int} (h : Ints w .i64 v l) : ∃ a cap, v = .slice a l.length cap ∧ (0 < l.length → ∃ b off, a = some ⟨b, off, none⟩ ∧ b < w.heap.size ∧ ∀ i, i < l.length → w.cell? ⟨b, off + i, none⟩ = some (.int .i64 (nth l i))) := by
  rcases h with ⟨rfl, a, cap, rfl⟩ | ⟨h0, b, off, cap, rfl, _, _, hb, hc⟩
  · exact ⟨a, cap, rfl, fun h => by simp at h⟩
  · exact ⟨_, cap, rfl, fun _ => ⟨b, off, rfl, hb, hc⟩⟩
def runesL : List Int := [112, 8593, 8595, 8226, 8987, 9858, 127913, 233, 45, 0, 2047, 65535]
def opOf (c : Int) : Int := runesL.getD (pickI c 12).toNat 0
def madeE (ops : List Int) (args : List (List Int)) (i : Nat) : Ent := ⟨opOf (nth ops i), args.getD i [], true, 0⟩
def madeL (ops : List Int) (args : List (List Int)) : List Ent := (List.range ops.length).map (madeE ops args)
theorem madeL_len (ops : List Int) (args : List (List Int)) : (madeL ops args).length = ops.length := by simp [madeL]
theorem madeL_take (ops : List Int) (args : List (List Int)) (k : Nat) (hk : k < ops.length) : (List.range (k + 1)).map (madeE ops args) = (List.range k).map (madeE ops args) ++ [madeE ops args k] := by
  rw [List.range_succ, List.map_append]
  rfl
theorem lit_rune (w : World) (p : Nat) (hp : p < 12) : (w.alloc (Obj.cells (runesL.map (Value.int .i32)).toArray 21)).cell? ⟨w.heap.size, p, none⟩ = some (.int .i32 (runesL.getD p 0)) := by
  rw [cell_of_row _ _ p _ _ _ (heap_alloc_new w _)]
  have hl : p < runesL.length := hp
  simp [List.getD, hl]
set_option maxRecDepth 100000 in
set_option maxHeartbeats 8000000 in
theorem made_any {vo va : Value} {ops : List Int} {args : List (List Int)} (w : World) (ho : Ints w .i64 vo ops) (ha : IntRows w va args) (hI : ∀ c ∈ ops, I64 c) (hl : ops.length ≤ 1000) (hal : args.length ≤ 1000000) :
    Calls Tryd.prog 15 #[vo, va] w fun e w' => ∃ v, e = .returned v ∧ GRowW w w' (w.heap.size + 1) v (madeL ops args) ∧ Below w.heap.size w w' := by
  obtain ⟨ao, co, rfl, hfo⟩ := ints64_form ho
  obtain ⟨aa, ca, rfl, hfa⟩ := ha.form
  have HFO := Lib.hid hfo; have HFA := Lib.hid hfa; have HI := Lib.hid hI
  clear ho ha hfo hfa hI
  obtain ⟨i0, hi, hz0, hz1, hz2⟩ := info_parts infoG
  have J1 := Lib.hid hi; have J2 := Lib.hid hz0; have J3 := Lib.hid hz1; have J4 := Lib.hid hz2; clear hi hz0 hz1 hz2
  have HLIT := Lib.hid (lit_rune w)
  go_enter Tryd.func15, Tryd.ntmps15
  go_wp2_with fail
  go_loopw [6, 7] (fun v i wr => ∃ k : Nat, k ≤ ops.length ∧ i = .int .i64 k ∧ Below (w.heap.size + 1) (w.alloc (Obj.cells (runesL.map (Value.int .i32)).toArray 21)) wr ∧ Hid (GRowW w wr (w.heap.size + 1) v ((List.range k).map (madeE ops args)))) (fun _ i _ => ops.length - (intOf i).toNat)
  case atStart => exact ⟨0, Nat.zero_le _, rfl, Below.refl _ _, [], rfl, World.ownsRow_nil _ _ _ _, fun p hp => by simp at hp⟩
  case round =>
    obtain ⟨k, hk, rfl, hbr, HR⟩ := hrel
    by_cases hlt : k < ops.length
    · obtain ⟨b, off, rfl, hb, hco⟩ := HFO.out (by omega)
      have hW : Below w.heap.size w wr := ((Below.refl w.heap.size w).alloc (Nat.le_refl _) _).trans (hbr.mono (by omega))
      have hIk : I64 (nth ops k) := HI.out _ (nth_mem hlt)
      obtain ⟨p, hp⟩ : ∃ p : Nat, pickI (nth ops k) 12 = p := ⟨(pickI (nth ops k) 12).toNat, by have := pickI_bd (nth ops k) 12 (by decide); omega⟩
      have hp12 : p < 12 := by have := pickI_bd (nth ops k) 12 (by decide); omega
      have hpi : (p : Int) < 12 := by omega
      have hpi0 : (0 : Int) ≤ (p : Int) := by omega
      obtain ⟨r, hr⟩ : ∃ r, runesL.getD p 0 = r := ⟨_, rfl⟩
      have clit := (hbr.cell (p := ⟨w.heap.size, p, none⟩) (Nat.lt_succ_self _)).trans (HLIT.out p hp12)
      rw [hr] at clit
      have HOP : Hid (opOf (nth ops k) = r) := by unfold Hid opOf; rw [hp, Int.toNat_natCast, hr]
      have cops := (hW.cell (p := ⟨b, off + k, none⟩) hb).trans (hco k hlt)
      have HP := Lib.hid hp
      have hi1 : (0 : Int) ≤ (k : Int) := by omega
      have hi2 : (k : Int) < (ops.length : Int) := by omega
      obtain ⟨ps, hps, hown, hin⟩ := HR.out
      have hpl : ps.length = k := by
        have := congrArg List.length hps
        rw [List.length_map, List.length_map, List.length_range] at this
        exact this
      have HPL := Lib.hid hpl
      have HPS := Lib.hid hps; have HIN := Lib.hid hin
      clear hco hp hr hps hin HR hpl
      go_wp2_with fail
      refine (pick_any (nth ops k) 12 hIk (by decide) (by decide) wr).mono ?_
      rintro e w2 ⟨he, rfl⟩
      rw [HP.out] at he
      subst he
      by_cases hka : k < args.length
      · obtain ⟨g, o, rfl, hg, hc⟩ := HFA.out (by omega)
        obtain ⟨av, d0, hav⟩ := hc k hka
        have carg := (hW.cell (p := ⟨g, o + k, none⟩) hg).trans d0
        obtain ⟨a7, n7, c7, rfl⟩ : ∃ a n c, av = .slice a n c := by
          rcases hav with ⟨_, a, c, rfl⟩ | ⟨_, b, o, c, rfl, _⟩
          · exact ⟨_, _, _, rfl⟩
          · exact ⟨_, _, _, rfl⟩
        have carg' : ∀ ob, (wr.alloc ob).cell? ⟨g, o + k, none⟩ = some (.slice a7 n7 c7) := fun ob => (World.cell?_alloc_some wr ⟨g, o + k, none⟩ ob (by rw [carg]; rfl)).trans carg
        have HAV := Lib.hid hav
        have HARG : Hid (args.getD k [] = args[k]) := by unfold Hid; simp [List.getD, hka]
        have hj2 : (k : Int) < (args.length : Int) := by omega
        clear hc d0 hav
        go_upto_region 9 with (fail)
        have hblk := heap_alloc_new wr (Obj.cells #[.int .i32 r, .slice a7 n7 c7, .bool true, .int .i64 0] 26)
        have hBW := hbr.alloc (by have := hbr.size; rw [World.size_alloc] at this; omega) (Obj.cells #[.int .i32 r, .slice a7 n7 c7, .bool true, .int .i64 0] 26)
        have hX := hown.alloc (Obj.cells #[.int .i32 r, .slice a7 n7 c7, .bool true, .int .i64 0] 26)
        clear clit cops carg carg'
        generalize wr.alloc (Obj.cells #[.int .i32 r, .slice a7 n7 c7, .bool true, .int .i64 0] 26) = W at hBW hblk hX ⊢
        generalize wr.heap.size = b0 at hblk ⊢
        have c0 : W.cell? ⟨b0, 0, none⟩ = some (.int .i32 r) := cell_of_row W b0 0 _ _ _ hblk
        have c1 : W.cell? ⟨b0, 1, none⟩ = some (.slice a7 n7 c7) := cell_of_row W b0 1 _ _ _ hblk
        have c2 : W.cell? ⟨b0, 2, none⟩ = some (.bool true) := cell_of_row W b0 2 _ _ _ hblk
        have c3 : W.cell? ⟨b0, 3, none⟩ = some (.int .i64 0) := cell_of_row W b0 3 _ _ _ hblk
        have HX := Lib.hid hX; have HBW := Lib.hid hBW
        have hszW := hBW.size
        rw [World.size_alloc] at hszW
        clear hX hBW hblk hown
        go_wp2_with (at_builtin; refine wpList_append_lies _ rfl _ _ 22 rfl (w.heap.size + 1) 26 i0 _ 4 48 Tryd.underlying22 J1.out J2.out J3.out J4.out rfl (by decide) _ ps.length _ rfl (HX.out.alloc _) ⟨W.heap.size, 0, none⟩ 1 1 (encG (.slice a7 n7 c7, ⟨r, args[k], true, 0⟩)) rfl rfl (newsG W _ rfl) (encG_one _ ⟨_, _, _, rfl⟩) (by decide) ?c3 ?c4 ?c5 (W.heap.size + 1) (by simp) ?_)
        case c3 => have := HPL.out; simp only [maxLen]; omega
        case c4 => have := HPL.out; omega
        case c5 => simp; omega
        intro g9 cap9 w6 hown6 hgrow6 hat6 hlt6
        have hb6 := (HBW.out.alloc hszW _).grown hgrow6 (by simp; omega) (fun g hg => (World.ownsRow.lt HX.out g hg).1)
        have HR6 : Hid (GRowW w w6 (w.heap.size + 1) (.slice (some ⟨g9, 0, none⟩) (ps.length + 1) cap9) ((List.range (k + 1)).map (madeE ops args))) := by
          refine ⟨ps ++ [(.slice a7 n7 c7, ⟨r, args[k], true, 0⟩)], ?_, by simpa using hown6, fun q hq => ?_⟩
          · rw [madeL_take ops args k hlt, List.map_append, HPS.out]
            congr 1
            show [_] = [_]
            unfold madeE
            rw [HOP.out, HARG.out]
          · rcases List.mem_append.1 hq with hq | hq
            · exact HIN.out q hq
            · simp at hq
              subst hq
              exact HAV.out
        clear hown6 hgrow6 hat6 hlt6
        go_wp2_with fail
        go_roundw
        case rel => exact ⟨k + 1, by omega, by go_num, hb6, HR6⟩
        case measure => simp [intOf]; omega
      · have HARG : Hid (args.getD k [] = []) := by unfold Hid; simp [List.getD, hka]
        have hj2 : ¬ (k : Int) < (args.length : Int) := by omega
        go_upto_region 9 with (fail)
        have hblk := heap_alloc_new wr (Obj.cells #[.int .i32 r, .slice none 0 0, .bool true, .int .i64 0] 26)
        have hBW := hbr.alloc (by have := hbr.size; rw [World.size_alloc] at this; omega) (Obj.cells #[.int .i32 r, .slice none 0 0, .bool true, .int .i64 0] 26)
        have hX := hown.alloc (Obj.cells #[.int .i32 r, .slice none 0 0, .bool true, .int .i64 0] 26)
        clear clit cops
        generalize wr.alloc (Obj.cells #[.int .i32 r, .slice none 0 0, .bool true, .int .i64 0] 26) = W at hBW hblk hX ⊢
        generalize wr.heap.size = b0 at hblk ⊢
        have c0 : W.cell? ⟨b0, 0, none⟩ = some (.int .i32 r) := cell_of_row W b0 0 _ _ _ hblk
        have c1 : W.cell? ⟨b0, 1, none⟩ = some (.slice none 0 0) := cell_of_row W b0 1 _ _ _ hblk
        have c2 : W.cell? ⟨b0, 2, none⟩ = some (.bool true) := cell_of_row W b0 2 _ _ _ hblk
        have c3 : W.cell? ⟨b0, 3, none⟩ = some (.int .i64 0) := cell_of_row W b0 3 _ _ _ hblk
        have HX := Lib.hid hX; have HBW := Lib.hid hBW
        have hszW := hBW.size
        rw [World.size_alloc] at hszW
        clear hX hBW hblk hown
        go_wp2_with (at_builtin; refine wpList_append_lies _ rfl _ _ 22 rfl (w.heap.size + 1) 26 i0 _ 4 48 Tryd.underlying22 J1.out J2.out J3.out J4.out rfl (by decide) _ ps.length _ rfl (HX.out.alloc _) ⟨W.heap.size, 0, none⟩ 1 1 (encG (.slice none 0 0, ⟨r, [], true, 0⟩)) rfl rfl (newsG W _ rfl) (encG_one _ ⟨_, _, _, rfl⟩) (by decide) ?c3 ?c4 ?c5 (W.heap.size + 1) (by simp) ?_)
        case c3 => have := HPL.out; simp only [maxLen]; omega
        case c4 => have := HPL.out; omega
        case c5 => simp; omega
        intro g9 cap9 w6 hown6 hgrow6 hat6 hlt6
        have hb6 := (HBW.out.alloc hszW _).grown hgrow6 (by simp; omega) (fun g hg => (World.ownsRow.lt HX.out g hg).1)
        have HR6 : Hid (GRowW w w6 (w.heap.size + 1) (.slice (some ⟨g9, 0, none⟩) (ps.length + 1) cap9) ((List.range (k + 1)).map (madeE ops args))) := by
          refine ⟨ps ++ [(.slice none 0 0, ⟨r, [], true, 0⟩)], ?_, by simpa using hown6, fun q hq => ?_⟩
          · rw [madeL_take ops args k hlt, List.map_append, HPS.out]
            congr 1
            show [_] = [_]
            unfold madeE
            rw [HOP.out, HARG.out]
          · rcases List.mem_append.1 hq with hq | hq
            · exact HIN.out q hq
            · simp at hq
              subst hq
              exact .inl ⟨rfl, _, _, rfl⟩
        clear hown6 hgrow6 hat6 hlt6
        go_wp2_with fail
        go_roundw
        case rel => exact ⟨k + 1, by omega, by go_num, hb6, HR6⟩
        case measure => simp [intOf]; omega
    · obtain rfl : k = ops.length := by omega
      go_wp2_with fail
      go_ret
      exact ⟨_, rfl, HR.out, ((Below.refl w.heap.size w).alloc (Nat.le_refl _) _).trans (hbr.mono (by omega))⟩
end Go.Proofs.YtolampkhohahlaaDoor.g3
