/- Rows of package glyph's entries in memory, and an entry that is being read, over this seat's program. -/
import Derived.Test.YtolampkhohahlaaDoorGlyphG
import Derived.Test.YtolampkhohahlaaDoorFill
import Derived.Deep.RegionLaw
namespace Go.Proofs.YtolampkhohahlaaDoor.g3
open Go.ChangeShapes Go.WideShapes Go.ChangeAt Go.RowKit frame lift gl own
set_option linter.unusedVariables false
theorem infoG : (Tryd.prog.info? 26).map (fun i => (i.zero, i.size, i.bytes)) = some (some (.agg #[.int .i32 0, .slice none 0 0, .bool false, .int .i64 0]), 4, 48) := by kernel_rfl
/-- An entry's cells; its numbers lie in the slice p.1. -/
def encG (p : Value × Ent) : List Value := [.int .i32 p.2.op, p.1, .bool p.2.ok, .int .i64 p.2.at_]
theorem encG_len (p : Value × Ent) : (encG p).length = 4 := rfl
theorem encG_one (p : Value × Ent) (h : ∃ a n c, p.1 = .slice a n c) : ∀ u ∈ encG p, u.oneCell' = true := by
  obtain ⟨a, n, c, h⟩ := h
  intro u hu
  simp only [encG, h, List.mem_cons, List.not_mem_nil, or_false] at hu
  rcases hu with rfl | rfl | rfl | rfl <;> rfl
theorem newsG (w : World) {p : Value × Ent} (l : List Value) (hl : l = encG p) : ∀ j u, (encG p)[j]? = some u → (w.alloc (Obj.cells l.toArray 26)).cell? ((⟨w.heap.size, 0, none⟩ : Addr).add j) = some u := by
  subst hl
  exact fun j u hu => World.news_of_block (heap_alloc_new w _) j u (by simpa using hu)
/-- Entries of the call's own, from block B on. -/
def OwnG (w : World) (B : Nat) (v : Value) (ps : List (Value × Ent)) : Prop :=
  w.ownsRow B 26 4 v ps.length (ps.flatMap encG) ∧ ∀ p ∈ ps, Own w B 47 .u64 p.1 p.2.args
theorem OwnG.below {w w' : World} {B : Nat} {v : Value} {ps : List (Value × Ent)} (h : OwnG w B v ps) (hb : Below w.heap.size w w') : OwnG w' B v ps := by
  refine ⟨?_, fun p hp => (h.2 p hp).below hb⟩
  obtain ⟨h1, h2 | ⟨g, cap, cur, hv, hg, hh, r⟩⟩ := h.1
  · exact ⟨h1, .inl h2⟩
  · exact ⟨h1, .inr ⟨g, cap, cur, hv, hg, by rw [hb.block g (Array.getElem?_eq_some_iff.1 hh).1]; exact hh, r⟩⟩
theorem entsG_push {wx w3 : World} {B : Nat} {v v' av : Value} {ps : List (Value × Ent)} {e : Ent} {o : Obj} (h : OwnG wx B v ps) (ha : Own wx B 47 .u64 av e.args)
    (hown : w3.ownsRow B 26 4 v' (ps.length + 1) (ps.flatMap encG ++ encG (av, e))) (hg : (wx.alloc o).grownBy w3 v.ownBlock) : OwnG w3 B v' (ps ++ [(av, e)]) := by
  have keep : ∀ {u : Value} {l : List Int}, Own wx B 47 .u64 u l → Own w3 B 47 .u64 u l := fun {u l} hu => by
    have hu' : Own (wx.alloc o) B 47 .u64 u l := hu.alloc o
    refine World.ownsRow.kept hu' hg ?_
    cases hb : u.ownBlock with
    | none => exact .inl rfl
    | some g =>
      refine .inr fun e => ?_
      obtain ⟨c1, hc1⟩ := ownsRow_elem hu hb
      obtain ⟨c2, hc2⟩ := ownsRow_elem h.1 e.symm
      rw [hc1] at hc2
      simp at hc2
  refine ⟨by simpa using hown, fun p hp => ?_⟩
  rcases List.mem_append.1 hp with hp | hp
  · exact keep (h.2 p hp)
  · simp at hp
    subst hp
    exact keep ha
/-- Entries of the call's own can be read. -/
theorem OwnG.reads {w : World} {B : Nat} {v : Value} {ps : List (Value × Ent)} (h' : OwnG w B v ps) : GEnts w v (ps.map (·.2)) := by
  have h := h'.1
  have hI0 : ∀ p ∈ ps, Ints w .u64 p.1 p.2.args := fun p hp => own_ints (h'.2 p hp)
  by_cases h0 : 0 < ps.length
  · have hr : RowOf w (fun _ => True) 26 4 v ps.length (ps.flatMap encG) := by
      refine ⟨⟨h.1, ?_⟩, fun _ _ => trivial⟩
      rcases h.2 with h | ⟨g, cap, cur, hv, _, r⟩
      · exact .inl h
      · exact .inr ⟨g, cap, cur, hv, Nat.zero_le _, r⟩
    obtain ⟨g, cap, rfl, _, hlt, h1, h2, hc, _⟩ := hr.at_ h0
    refine .inr ⟨by simpa using h0, g, 0, cap, by simp, by simpa using h1, h2, hlt, fun i hi => ?_⟩
    have hi' : i < ps.length := by simpa using hi
    have hcell (f : Nat) (hf : f < 4) : w.cell? ⟨g, 0 + i * 4 + f, none⟩ = (encG ps[i])[f]? := by
      rw [Nat.zero_add, hc (i * 4 + f) (by omega)]
      have hgen : ∀ (l : List (Value × Ent)) (i : Nat) (hi : i < l.length), (l.flatMap encG)[i * 4 + f]? = (encG l[i])[f]? := by
        intro l
        induction l with
        | nil => intro i hi; simp at hi
        | cons p l ih =>
          intro i hi
          rw [List.flatMap_cons]
          cases i with
          | zero =>
            rw [Nat.zero_mul, Nat.zero_add, List.getElem?_append_left (by rw [encG_len]; exact hf)]
            rfl
          | succ i =>
            rw [List.getElem?_append_right (by rw [encG_len]; omega), encG_len, show (i + 1) * 4 + f - 4 = i * 4 + f by omega]
            exact ih i (by simpa using hi)
      exact hgen ps i hi'
    have hI : Ints w .u64 ps[i].1 ps[i].2.args := hI0 ps[i] (List.getElem_mem hi')
    refine ⟨ps[i].1, ?_, ?_, ?_, ?_, ?_⟩
    · simpa [encG] using hcell 0 (by decide)
    · simpa [encG] using hcell 1 (by decide)
    · simpa [encG] using hcell 2 (by decide)
    · simpa [encG] using hcell 3 (by decide)
    · simpa using hI
  · have e : ps = [] := List.eq_nil_of_length_eq_zero (by omega)
    subst e
    refine .inl ⟨rfl, ?_⟩
    rcases h.2 with ⟨hn, _⟩ | ⟨g', cap', _, hv, _⟩
    · exact ⟨_, _, hn⟩
    · exact ⟨_, _, hv⟩

/-! ### An entry that is being read -/
def rdCells (op : Int) (at_ : Nat) (more : Bool) (x : Rd) (av : Value) : Array Value := #[.int .i32 op, av, .bool x.ok, .int .i64 at_, .bool more, .int .u64 x.num.v, .bool x.num.d, .bool x.num.wr]
/-- It lies in block m, its numbers behind it. -/
structure RdV (w : World) (m : Nat) (op : Int) (at_ : Nat) (more : Bool) (x : Rd) (av : Value) : Prop where
  blk : w.heap[m]? = some (.cells (rdCells op at_ more x av) 68 (0, 0))
  own : Own w (m + 1) 47 .u64 av x.args
section
variable {w : World} {m : Nat} {op : Int} {at_ : Nat} {more : Bool} {x : Rd} {av : Value}
theorem RdV.lt (h : RdV w m op at_ more x av) : m < w.heap.size := (Array.getElem?_eq_some_iff.1 h.blk).1
theorem RdV.c (h : RdV w m op at_ more x av) (j : Nat) : w.cell? ⟨m, j, none⟩ = (rdCells op at_ more x av)[j]? := cell_of_row w m j _ _ _ h.blk
theorem RdV.f (h : RdV w m op at_ more x av) (j : Nat) : w.frozen? ⟨m, j, none⟩ = false := frozen_of_row w m j _ _ h.blk
theorem RdV.below {w' : World} (h : RdV w m op at_ more x av) (hb : Below w.heap.size w w') : RdV w' m op at_ more x av := ⟨by rw [hb.block m h.lt]; exact h.blk, h.own.below hb⟩
theorem RdV.ne (h : RdV w m op at_ more x av) : av.ownBlock ≠ some m := fun e => by
  obtain ⟨cur, hc⟩ := ownsRow_elem h.own e
  rw [h.blk] at hc
  simp at hc
end
theorem begun_any (r : Int) (at_ : Nat) (w : World) : Calls Tryd.prog 27 #[.int .i32 r, .int .i64 at_] w fun e w' => e = .returned (.pointer (some ⟨w.heap.size, 0, none⟩)) ∧ RdV w' w.heap.size r at_ false (Rd.start (!numb r)) (.slice none 0 0) ∧ Below w.heap.size w w' := by
  go_enter Tryd.func27, Tryd.ntmps27
  go_wp2_with (go_at_call 23; refine (isOfNumbers_any _ _).mono ?_; rintro e w' ⟨rfl, rfl⟩)
  go_ret
  exact ⟨rfl, ⟨heap_alloc_new w _, own_nil _ _ _ _⟩, (Below.refl _ _).alloc (Nat.le_refl _) _⟩
theorem RdV.set {w : World} {m : Nat} {op : Int} {at_ : Nat} {more : Bool} {x : Rd} {av : Value} (h : RdV w m op at_ more x av) {more' : Bool} {ok' : Bool} (j : Nat) (u : Value) (hj : (rdCells op at_ more x av).setIfInBounds j u = rdCells op at_ more' ⟨x.args, ok', x.num⟩ av) :
    RdV (w.setCell ⟨m, j, none⟩ u) m op at_ more' ⟨x.args, ok', x.num⟩ av := by
  refine ⟨?_, ownsRow_setCell_other h.own h.ne _⟩
  rw [heap_setCell_same w m j _ _ _ h.blk, hj]
/-- One number more, and what was gathered of the last one is forgotten. -/
theorem rd_cut {w w0 w3 : World} {m : Nat} {op : Int} {at_ : Nat} {more : Bool} {x : Rd} {av : Value} {g n cap : Nat} (h : RdV w m op at_ more x av) (hb : Below w.heap.size w w0)
    (hown : w3.ownsRow (m + 1) 47 1 (.slice (some ⟨g, 0, none⟩) n cap) n ((x.args ++ [x.num.v]).map (Value.int .u64))) (hn : n = x.args.length + 1) (hg : w0.grownBy w3 av.ownBlock) :
    w3.heap[m]? = some (.cells (rdCells op at_ more x av) 68 (0, 0)) ∧
    RdV ((((w3.setCell ⟨m, 1, none⟩ (.slice (some ⟨g, 0, none⟩) n cap)).setCell ⟨m, 5, none⟩ (.int .u64 0)).setCell ⟨m, 6, none⟩ (.bool false)).setCell ⟨m, 7, none⟩ (.bool false)) m op at_ more ⟨x.args ++ [x.num.v], x.ok, Num.zero⟩ (.slice (some ⟨g, 0, none⟩) n cap) ∧
    Below m w ((((w3.setCell ⟨m, 1, none⟩ (.slice (some ⟨g, 0, none⟩) n cap)).setCell ⟨m, 5, none⟩ (.int .u64 0)).setCell ⟨m, 6, none⟩ (.bool false)).setCell ⟨m, 7, none⟩ (.bool false)) := by
  have hne := h.ne
  have hm := h.lt
  have hgm : g ≠ m := by
    obtain ⟨_, h2 | ⟨g', cap', cur, hv, hg', _⟩⟩ := hown
    · simp at h2
    · simp at hv; omega
  have hk : w3.heap[m]? = some (.cells (rdCells op at_ more x av) 68 (0, 0)) := by
    rw [hg.block m (Nat.lt_of_lt_of_le hm hb.size) (fun e => hne e.symm), hb.block m hm]
    exact h.blk
  have hne' : (Value.slice (some ⟨g, 0, none⟩) n cap).ownBlock ≠ some m := by simp [Value.ownBlock, hgm]
  refine ⟨hk, ⟨?_, ?_⟩, ?_⟩
  · have e1 := heap_setCell_same w3 m 1 _ _ (.slice (some ⟨g, 0, none⟩) n cap) hk
    have e2 := heap_setCell_same _ m 5 _ _ (.int .u64 0) e1
    have e3 := heap_setCell_same _ m 6 _ _ (.bool false) e2
    have e4 := heap_setCell_same _ m 7 _ _ (.bool false) e3
    rw [e4]
    rfl
  · subst hn
    exact ownsRow_setCell_other (ownsRow_setCell_other (ownsRow_setCell_other (ownsRow_setCell_other (by simpa [Own] using hown) hne' _) hne' _) hne' _) hne' _
  · have hB : Below m w w3 := (hb.mono (Nat.le_of_lt hm)).grown hg (Nat.le_trans (Nat.le_of_lt hm) hb.size) (fun g hg => by have := (World.ownsRow.lt h.own g hg).1; omega)
    exact (((hB.setCell (Nat.le_refl _) _).setCell (Nat.le_refl _) _).setCell (Nat.le_refl _) _).setCell (Nat.le_refl _) _
theorem news64 (w : World) (n : Int) : ∀ j u, ([Value.int .u64 n] : List Value)[j]? = some u → (w.alloc (Obj.cells #[Value.int .u64 n] 47)).cell? ((⟨w.heap.size, 0, none⟩ : Addr).add j) = some u :=
  fun j u hu => World.news_of_block (heap_alloc_new w _) j u (by simpa using hu)
theorem one64 (n : Int) : ∀ u ∈ ([Value.int .u64 n] : List Value), u.oneCell' = true := by
  intro u hu
  simp at hu
  subst hu
  rfl
theorem rd_c {w : World} {m : Nat} {cs : Array Value} (h : w.heap[m]? = some (.cells cs 68 (0, 0))) (j : Nat) : w.cell? ⟨m, j, none⟩ = cs[j]? := cell_of_row w m j _ _ _ h
theorem rd_f {w : World} {m : Nat} {cs : Array Value} (h : w.heap[m]? = some (.cells cs 68 (0, 0))) (j : Nat) : w.frozen? ⟨m, j, none⟩ = false := frozen_of_row w m j _ _ h
set_option maxRecDepth 100000 in
set_option maxHeartbeats 4000000 in
theorem cut_any {w : World} {m : Nat} {op : Int} {at_ : Nat} {more : Bool} {x : Rd} {av : Value} (h : RdV w m op at_ more x av) (hx : x.args.length ≤ 1000000) :
    Calls Tryd.prog 32 #[.pointer (some ⟨m, 0, none⟩)] w fun e w' => e = .returned (.tuple #[]) ∧ (∃ av', RdV w' m op at_ more x.cut av') ∧ Below m w w' := by
  have d5 : w.cell? ⟨m, 5, none⟩ = some (.int .u64 x.num.v) := h.c 5
  have d6 : w.cell? ⟨m, 6, none⟩ = some (.bool x.num.d) := h.c 6
  have d7 : w.cell? ⟨m, 7, none⟩ = some (.bool x.num.wr) := h.c 7
  have H := Lib.hid h; clear h
  obtain ⟨i0, hi, hz0, hz1, hz2⟩ := info_parts info64
  have J1 := Lib.hid hi; have J2 := Lib.hid hz0; have J3 := Lib.hid hz1; have J4 := Lib.hid hz2; clear hi hz0 hz1 hz2
  go_enter Tryd.func32, Tryd.ntmps32
  go_wp2_with fail
  refine (isOne_any x.num w).mono ?_
  rintro e w1 ⟨he, hb1⟩
  have h1 := H.out.below hb1
  have HB1 := Lib.hid (hb1.mono (Nat.le_of_lt H.out.lt))
  clear d5 d6 d7 hb1
  cases hone : x.num.one with
  | true =>
    rw [hone] at he
    subst he
    have HC : Hid (x.cut = ⟨x.args ++ [x.num.v], x.ok, Num.zero⟩) := by unfold Hid Rd.cut; rw [hone, Bool.and_true]
    have d1 : w1.cell? ⟨m, 1, none⟩ = some av := h1.c 1
    have d5 : w1.cell? ⟨m, 5, none⟩ = some (.int .u64 x.num.v) := h1.c 5
    have d6 : w1.cell? ⟨m, 6, none⟩ = some (.bool x.num.d) := h1.c 6
    have d7 : w1.cell? ⟨m, 7, none⟩ = some (.bool x.num.wr) := h1.c 7
    have f1 := h1.f 1; have f5 := h1.f 5; have f6 := h1.f 6; have f7 := h1.f 7
    have HW := Lib.hid h1
    have HO := Lib.hid h1.own
    have hml := h1.lt
    have hbw : Below w1.heap.size w1 (w1.drew.alloc (Obj.cells #[Value.int .u64 x.num.v] 47)) := (Below.refl _ _).drew.alloc (Nat.le_refl _) _
    have HB := Lib.hid hbw
    clear h1 hone hbw
    have hq1 : x.args.length + 1 ≤ maxLen := by simp only [maxLen]; omega
    have hq2 : (x.args.length + 1) * 8 ≤ 140737488355328 := by omega
    go_wp2_with fail
    go_region_law ((refine step_append_lies _ rfl _ _ 24 rfl (m + 1) 47 i0 _ 1 8 Tryd.underlying24 J1.out J2.out J3.out J4.out rfl (by decide) av x.args.length _ rfl (World.ownsRow.alloc HO.out _) ⟨w1.heap.size, 0, none⟩ 1 1 [.int .u64 x.num.v] rfl rfl (news64 w1 _) (one64 _) (by decide) hq1 hq2 (by simp; omega) (w1.heap.size + 1) (by simp) ?_; intro g9 cap9 w3 hown hgrow hat hlt; (have HA := Lib.hid (rd_cut HW.out HB.out (by simpa using hown) rfl hgrow)); (have c1 : w3.cell? ⟨m, 1, none⟩ = some av := rd_c HA.out.1 1); (have c5 : w3.cell? ⟨m, 5, none⟩ = some (.int .u64 x.num.v) := rd_c HA.out.1 5); (have c6 : w3.cell? ⟨m, 6, none⟩ = some (.bool x.num.d) := rd_c HA.out.1 6); (have c7 : w3.cell? ⟨m, 7, none⟩ = some (.bool x.num.wr) := rd_c HA.out.1 7); (have g1 := rd_f HA.out.1 1); (have g5 := rd_f HA.out.1 5); (have g6 := rd_f HA.out.1 6); (have g7 := rd_f HA.out.1 7); clear hown hgrow hat hlt))
    all_goals
      go_wp2_with fail
      go_returns
      exact ⟨rfl, ⟨_, by rw [HC.out]; exact HA.out.2.1⟩, HB1.out.trans HA.out.2.2⟩
  | false =>
    rw [hone] at he
    subst he
    have HC : Hid (x.cut = ⟨x.args ++ [x.num.v], false, Num.zero⟩) := by unfold Hid Rd.cut; rw [hone, Bool.and_false]
    have h2 : RdV (w1.setCell ⟨m, 2, none⟩ (.bool false)) m op at_ more ⟨x.args, false, x.num⟩ av := h1.set 2 _ rfl
    have hb2 : Below m w (w1.setCell ⟨m, 2, none⟩ (.bool false)) := HB1.out.setCell (Nat.le_refl _) _
    have d2 : w1.cell? ⟨m, 2, none⟩ = some (.bool x.ok) := h1.c 2
    have f2 := h1.f 2
    clear h1 HB1 hone
    go_wp2_with fail
    clear d2 f2
    generalize w1.setCell ⟨m, 2, none⟩ (.bool false) = w2 at h2 hb2 ⊢
    have d1 : w2.cell? ⟨m, 1, none⟩ = some av := h2.c 1
    have d5 : w2.cell? ⟨m, 5, none⟩ = some (.int .u64 x.num.v) := h2.c 5
    have d6 : w2.cell? ⟨m, 6, none⟩ = some (.bool x.num.d) := h2.c 6
    have d7 : w2.cell? ⟨m, 7, none⟩ = some (.bool x.num.wr) := h2.c 7
    have f1 := h2.f 1; have f5 := h2.f 5; have f6 := h2.f 6; have f7 := h2.f 7
    have HW := Lib.hid h2
    have HO := Lib.hid h2.own
    have hml := h2.lt
    have hbw : Below w2.heap.size w2 (w2.drew.alloc (Obj.cells #[Value.int .u64 x.num.v] 47)) := (Below.refl _ _).drew.alloc (Nat.le_refl _) _
    have HB := Lib.hid hbw
    have HB1 := Lib.hid hb2
    clear h2 hbw hb2
    have hq1 : x.args.length + 1 ≤ maxLen := by simp only [maxLen]; omega
    have hq2 : (x.args.length + 1) * 8 ≤ 140737488355328 := by omega
    try go_wp2_with fail
    go_region_law ((refine step_append_lies _ rfl _ _ 24 rfl (m + 1) 47 i0 _ 1 8 Tryd.underlying24 J1.out J2.out J3.out J4.out rfl (by decide) av x.args.length _ rfl (World.ownsRow.alloc HO.out _) ⟨w2.heap.size, 0, none⟩ 1 1 [.int .u64 x.num.v] rfl rfl (news64 w2 _) (one64 _) (by decide) hq1 hq2 (by simp; omega) (w2.heap.size + 1) (by simp) ?_; intro g9 cap9 w3 hown hgrow hat hlt; (have HA := Lib.hid (rd_cut HW.out HB.out (by simpa using hown) rfl hgrow)); (have c1 : w3.cell? ⟨m, 1, none⟩ = some av := rd_c HA.out.1 1); (have c5 : w3.cell? ⟨m, 5, none⟩ = some (.int .u64 x.num.v) := rd_c HA.out.1 5); (have c6 : w3.cell? ⟨m, 6, none⟩ = some (.bool x.num.d) := rd_c HA.out.1 6); (have c7 : w3.cell? ⟨m, 7, none⟩ = some (.bool x.num.wr) := rd_c HA.out.1 7); (have g1 := rd_f HA.out.1 1); (have g5 := rd_f HA.out.1 5); (have g6 := rd_f HA.out.1 6); (have g7 := rd_f HA.out.1 7); clear hown hgrow hat hlt))
    all_goals
      go_wp2_with fail
      go_returns
      exact ⟨rfl, ⟨_, by rw [HC.out]; exact HA.out.2.1⟩, HB1.out.trans HA.out.2.2⟩
end Go.Proofs.YtolampkhohahlaaDoor.g3
