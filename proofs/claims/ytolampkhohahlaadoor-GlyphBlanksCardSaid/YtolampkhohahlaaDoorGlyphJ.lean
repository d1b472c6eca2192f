/- Contracts of package glyph: an entry goes on, and is closed, over this seat's program. -/
import Derived.Test.YtolampkhohahlaaDoorGlyphC
import Derived.Deep.Cut
namespace Go.Proofs.YtolampkhohahlaaDoor.g3
open Go.ChangeShapes Go.WideShapes Go.ChangeAt Go.RowKit frame lift gl own
set_option linter.unusedVariables false
theorem rd_num {w : World} {m : Nat} {op : Int} {at_ : Nat} {more : Bool} {x : Rd} {av : Value} (h : RdV w m op at_ more x av) (n : Num) :
    RdV (((w.setCell ⟨m, 5, none⟩ (.int .u64 n.v)).setCell ⟨m, 6, none⟩ (.bool n.d)).setCell ⟨m, 7, none⟩ (.bool n.wr)) m op at_ more ⟨x.args, x.ok, n⟩ av := by
  refine ⟨?_, ownsRow_setCell_other (ownsRow_setCell_other (ownsRow_setCell_other h.own h.ne _) h.ne _) h.ne _⟩
  have e2 := heap_setCell_same _ m 5 _ _ (.int .u64 n.v) h.blk
  have e3 := heap_setCell_same _ m 6 _ _ (.bool n.d) e2
  have e4 := heap_setCell_same _ m 7 _ _ (.bool n.wr) e3
  rw [e4]
  rfl
set_option maxHeartbeats 4000000 in
theorem add_any {w : World} {m : Nat} {op : Int} {at_ : Nat} {more : Bool} {x : Rd} {av : Value} (h : RdV w m op at_ more x av) (hx : x.args.length ≤ 1000000) (hU : U64 x.num.v) (b : Int) (hb : numb b = true) :
    Calls Tryd.prog 24 #[.pointer (some ⟨m, 0, none⟩), .int .i32 b] w fun e w' => e = .returned (.tuple #[]) ∧ (∃ av', RdV w' m op at_ true (x.step b) av') ∧ Below m w w' := by
  have h1 : RdV (w.setCell ⟨m, 4, none⟩ (.bool true)) m op at_ true x av := h.set 4 _ rfl
  have hb1 : Below m w (w.setCell ⟨m, 4, none⟩ (.bool true)) := (Below.refl m w).setCell (p := ⟨m, 4, none⟩) (Nat.le_refl m) _
  have d4 : w.cell? ⟨m, 4, none⟩ = some (.bool more) := h.c 4
  have f4 := h.f 4
  have d5 : w.cell? ⟨m, 5, none⟩ = some (.int .u64 x.num.v) := h.c 5
  have d6 : w.cell? ⟨m, 6, none⟩ = some (.bool x.num.d) := h.c 6
  have d7 : w.cell? ⟨m, 7, none⟩ = some (.bool x.num.wr) := h.c 7
  clear h
  have HU := Lib.hid hU; clear hU
  cases hc : (b == 44) with
  | true =>
    have hb44 : b = 44 := by simpa using hc
    subst hb44
    have HC : Hid (x.step 44 = x.cut) := by unfold Hid Rd.step; rw [if_pos rfl]
    clear hc hb
    go_enter Tryd.func24, Tryd.ntmps24
    go_wp2_with fail
    clear d4 f4
    generalize w.setCell ⟨m, 4, none⟩ (.bool true) = w1 at h1 hb1 ⊢
    refine (cut_any h1 hx).mono ?_
    rintro e w2 ⟨rfl, ⟨av', h2⟩, hb2⟩
    have H2 := Lib.hid h2
    clear h2 h1
    go_wp2_with fail
    go_returns
    exact ⟨rfl, ⟨_, by rw [HC.out]; exact H2.out⟩, hb1.trans hb2⟩
  | false =>
    have hd : Dig b := by
      unfold numb at hb
      rw [hc] at hb
      simp at hb
      exact hb
    have HD := Lib.hid hd
    have HC : Hid (x.step b = ⟨x.args, x.ok, x.num.step b⟩) := by
      have : b ≠ 44 := by simpa using hc
      unfold Hid Rd.step; rw [if_neg this]
    clear hb hd
    go_enter Tryd.func24, Tryd.ntmps24
    go_wp2_with fail
    clear d4 f4 d5 d6 d7
    generalize w.setCell ⟨m, 4, none⟩ (.bool true) = w1 at h1 hb1 ⊢
    refine (with_any x.num HU.out b HD.out w1).mono ?_
    rintro e w2 ⟨rfl, hb2⟩
    have h2 := h1.below hb2
    have d5 : w2.cell? ⟨m, 5, none⟩ = some (.int .u64 x.num.v) := h2.c 5
    have d6 : w2.cell? ⟨m, 6, none⟩ = some (.bool x.num.d) := h2.c 6
    have d7 : w2.cell? ⟨m, 7, none⟩ = some (.bool x.num.wr) := h2.c 7
    have f5 := h2.f 5; have f6 := h2.f 6; have f7 := h2.f 7
    have HB2 := Lib.hid (hb1.trans (hb2.mono (Nat.le_of_lt h1.lt)))
    have H2 := Lib.hid (rd_num h2 (x.num.step b))
    clear h1 h2 hb1 hb2
    unfold encN
    go_wp2_with fail
    go_returns
    refine ⟨rfl, ⟨_, by rw [HC.out]; exact H2.out⟩, HB2.out.trans ?_⟩
    exact (((Below.refl m w2).setCell (p := ⟨m, 5, none⟩) (Nat.le_refl m) _).setCell (p := ⟨m, 6, none⟩) (Nat.le_refl m) _).setCell (p := ⟨m, 7, none⟩) (Nat.le_refl m) _
theorem closed_nil (v : Value) (w : World) : Calls Tryd.prog 26 #[v, .pointer none] w fun e w' => e = .returned v ∧ w = w' := by
  go_enter Tryd.func26, Tryd.ntmps26
  go_wp2_with fail
  go_ret
  exact ⟨rfl, rfl⟩
theorem RdV.setNil {w : World} {m : Nat} {op : Int} {at_ : Nat} {more : Bool} {x : Rd} {av : Value} (h : RdV w m op at_ more x av) :
    RdV (w.setCell ⟨m, 1, none⟩ (.slice none 0 0)) m op at_ more ⟨[], x.ok, x.num⟩ (.slice none 0 0) := by
  refine ⟨?_, own_nil _ _ _ _⟩
  rw [heap_setCell_same w m 1 _ _ _ h.blk]
  rfl
def endOf (op : Int) (at_ : Nat) (y : Rd) : Ent := ⟨op, if y.ok then y.args else [], y.ok, at_⟩
set_option maxRecDepth 100000 in
set_option maxHeartbeats 4000000 in
theorem closed_some {w wm : World} {B m : Nat} {op : Int} {at_ : Nat} {more : Bool} {x : Rd} {av v : Value} {ps : List (Value × Ent)} (hO : OwnG wm B v ps) (hm : wm.heap.size ≤ m) (hbm : Below wm.heap.size wm w) (hB : B ≤ wm.heap.size)
    (h : RdV w m op at_ more x av) (hx : x.args.length ≤ 1000000) (hps : ps.length ≤ 1000000) :
    Calls Tryd.prog 26 #[v, .pointer (some ⟨m, 0, none⟩)] w fun e w' => ∃ v' p, e = .returned v' ∧ OwnG w' B v' (ps ++ [p]) ∧ p.2 = endOf op at_ (x.done more) ∧ Below B w w' := by
  have HOO := Lib.hid hO; clear hO
  obtain ⟨i0, hi, hz0, hz1, hz2⟩ := info_parts infoG
  have J1 := Lib.hid hi; have J2 := Lib.hid hz0; have J3 := Lib.hid hz1; have J4 := Lib.hid hz2; clear hi hz0 hz1 hz2
  have hBm : B ≤ m := Nat.le_trans hB hm
  have c4 : w.cell? ⟨m, 4, none⟩ = some (.bool more) := h.c 4
  cases more with
  | true =>
    have hcut := cut_any h hx
    have e0 : x.done true = x.cut := rfl
    rw [e0]
    generalize x.cut = y at hcut ⊢
    clear e0 h
    go_enter Tryd.func26, Tryd.ntmps26
    go_wp2_with fail
    clear c4
    refine hcut.mono ?_
    rintro e w1 ⟨rfl, ⟨av1, hW⟩, hbW⟩
    clear hcut
    have hX : OwnG w1 B v ps := HOO.out.below (hbm.trans (hbW.mono hm))
    have HX := Lib.hid hX
    have HBW := Lib.hid hbW
    obtain ⟨a7, n7, c7, rfl⟩ := own_form hW.own
    have hWm := hW.lt
    have c0 : w1.cell? ⟨m, 0, none⟩ = some (.int .i32 op) := hW.c 0
    have c1 : w1.cell? ⟨m, 1, none⟩ = some (.slice a7 n7 c7) := hW.c 1
    have c2 : w1.cell? ⟨m, 2, none⟩ = some (.bool y.ok) := hW.c 2
    have c3 : w1.cell? ⟨m, 3, none⟩ = some (.int .i64 at_) := hW.c 3
    have f1 := hW.f 1
    cases hy : y.ok with
    | true =>
      rw [hy] at c2
      have HA : Hid (Own w1 B 47 .u64 (.slice a7 n7 c7) y.args) := own_mono hW.own (by omega)
      have HE : Hid (endOf op at_ y = ⟨op, y.args, true, at_⟩) := by unfold Hid endOf; rw [hy]; rfl
      clear hy hX hbW hW
      go_wp2_with (at_builtin; refine wpList_append_lies _ rfl _ _ 22 rfl B 26 i0 _ 4 48 Tryd.underlying22 J1.out J2.out J3.out J4.out rfl (by decide) _ ps.length _ rfl (HX.out.1.alloc _) ⟨w1.heap.size, 0, none⟩ 1 1 (encG (.slice a7 n7 c7, ⟨op, y.args, true, at_⟩)) rfl rfl (newsG w1 _ rfl) (encG_one _ ⟨_, _, _, rfl⟩) (by decide) ?c3 ?c4 ?c5 (w1.heap.size + 1) (by simp) ?_)
      case c3 => simp only [maxLen]; omega
      case c4 => omega
      case c5 => simp; omega
      intro g9 cap9 w6 hown6 hgrow6 hat6 hlt6
      have HO6 := Lib.hid (entsG_push HX.out HA.out hown6 hgrow6)
      have hbr6 : Below B w w6 := ((HBW.out.mono hBm).alloc (by omega) _).grown hgrow6 (by simp; omega) (fun g hg => (World.ownsRow.lt HX.out.1 g hg).1)
      clear hown6 hgrow6 hat6
      go_wp2_with fail
      go_ret
      exact ⟨_, (.slice a7 n7 c7, ⟨op, y.args, true, at_⟩), rfl, HO6.out, HE.out.symm, hbr6⟩
    | false =>
      rw [hy] at c2
      have HE : Hid (endOf op at_ y = ⟨op, [], false, at_⟩) := by unfold Hid endOf; rw [hy]; rfl
      have hW2 := hW.setNil
      have hbW2 : Below m w (w1.setCell ⟨m, 1, none⟩ (.slice none 0 0)) := HBW.out.setCell (p := ⟨m, 1, none⟩) (Nat.le_refl m) _
      rw [hy] at hW2
      clear hX hW hbW hy HX HBW
      go_upto_region 7 with (fail)
      clear c0 c1 c2 c3 f1
      generalize w1.setCell ⟨m, 1, none⟩ (.slice none 0 0) = w5 at hW2 hbW2 ⊢
      have hX : OwnG w5 B v ps := HOO.out.below (hbm.trans (hbW2.mono hm))
      have HX := Lib.hid hX
      have HBW := Lib.hid hbW2
      have hWm2 := hW2.lt
      have c0 : w5.cell? ⟨m, 0, none⟩ = some (.int .i32 op) := hW2.c 0
      have c1 : w5.cell? ⟨m, 1, none⟩ = some (.slice none 0 0) := hW2.c 1
      have c2 : w5.cell? ⟨m, 2, none⟩ = some (.bool false) := hW2.c 2
      have c3 : w5.cell? ⟨m, 3, none⟩ = some (.int .i64 at_) := hW2.c 3
      have HA : Hid (Own w5 B 47 .u64 (.slice none 0 0) []) := own_nil _ _ _ _
      clear hX hbW2 hW2
      go_wp2_with (at_builtin; refine wpList_append_lies _ rfl _ _ 22 rfl B 26 i0 _ 4 48 Tryd.underlying22 J1.out J2.out J3.out J4.out rfl (by decide) _ ps.length _ rfl (HX.out.1.alloc _) ⟨w5.heap.size, 0, none⟩ 1 1 (encG (.slice none 0 0, ⟨op, [], false, at_⟩)) rfl rfl (newsG w5 _ rfl) (encG_one _ ⟨_, _, _, rfl⟩) (by decide) ?c3 ?c4 ?c5 (w5.heap.size + 1) (by simp) ?_)
      case c3 => simp only [maxLen]; omega
      case c4 => omega
      case c5 => simp; omega
      intro g9 cap9 w6 hown6 hgrow6 hat6 hlt6
      have HO6 := Lib.hid (entsG_push HX.out HA.out hown6 hgrow6)
      have hbr6 : Below B w w6 := ((HBW.out.mono hBm).alloc (by omega) _).grown hgrow6 (by simp; omega) (fun g hg => (World.ownsRow.lt HX.out.1 g hg).1)
      clear hown6 hgrow6 hat6
      go_wp2_with fail
      go_ret
      exact ⟨_, (.slice none 0 0, ⟨op, [], false, at_⟩), rfl, HO6.out, HE.out.symm, hbr6⟩
  | false =>
    have e0 : x.done false = x := rfl
    rw [e0]
    have hW := h
    have hbW := Below.refl m w
    clear h e0
    go_enter Tryd.func26, Tryd.ntmps26
    have hX : OwnG w B v ps := HOO.out.below (hbm.trans (hbW.mono hm))
    have HX := Lib.hid hX
    have HBW := Lib.hid hbW
    obtain ⟨a7, n7, c7, rfl⟩ := own_form hW.own
    have hWm := hW.lt
    have c0 : w.cell? ⟨m, 0, none⟩ = some (.int .i32 op) := hW.c 0
    have c1 : w.cell? ⟨m, 1, none⟩ = some (.slice a7 n7 c7) := hW.c 1
    have c2 : w.cell? ⟨m, 2, none⟩ = some (.bool x.ok) := hW.c 2
    have c3 : w.cell? ⟨m, 3, none⟩ = some (.int .i64 at_) := hW.c 3
    have f1 := hW.f 1
    cases hy : x.ok with
    | true =>
      rw [hy] at c2
      have HA : Hid (Own w B 47 .u64 (.slice a7 n7 c7) x.args) := own_mono hW.own (by omega)
      have HE : Hid (endOf op at_ x = ⟨op, x.args, true, at_⟩) := by unfold Hid endOf; rw [hy]; rfl
      clear hy hX hbW hW
      go_wp2_with (at_builtin; refine wpList_append_lies _ rfl _ _ 22 rfl B 26 i0 _ 4 48 Tryd.underlying22 J1.out J2.out J3.out J4.out rfl (by decide) _ ps.length _ rfl (HX.out.1.alloc _) ⟨w.heap.size, 0, none⟩ 1 1 (encG (.slice a7 n7 c7, ⟨op, x.args, true, at_⟩)) rfl rfl (newsG w _ rfl) (encG_one _ ⟨_, _, _, rfl⟩) (by decide) ?c3 ?c4 ?c5 (w.heap.size + 1) (by simp) ?_)
      case c3 => simp only [maxLen]; omega
      case c4 => omega
      case c5 => simp; omega
      intro g9 cap9 w6 hown6 hgrow6 hat6 hlt6
      have HO6 := Lib.hid (entsG_push HX.out HA.out hown6 hgrow6)
      have hbr6 : Below B w w6 := ((HBW.out.mono hBm).alloc (by omega) _).grown hgrow6 (by simp; omega) (fun g hg => (World.ownsRow.lt HX.out.1 g hg).1)
      clear hown6 hgrow6 hat6
      go_wp2_with fail
      go_ret
      exact ⟨_, (.slice a7 n7 c7, ⟨op, x.args, true, at_⟩), rfl, HO6.out, HE.out.symm, hbr6⟩
    | false =>
      rw [hy] at c2
      have HE : Hid (endOf op at_ x = ⟨op, [], false, at_⟩) := by unfold Hid endOf; rw [hy]; rfl
      have hW2 := hW.setNil
      have hbW2 : Below m w (w.setCell ⟨m, 1, none⟩ (.slice none 0 0)) := HBW.out.setCell (p := ⟨m, 1, none⟩) (Nat.le_refl m) _
      rw [hy] at hW2
      clear hX hW hbW hy HX HBW
      go_upto_region 7 with (fail)
      clear c0 c1 c2 c3 f1
      generalize w.setCell ⟨m, 1, none⟩ (.slice none 0 0) = w5 at hW2 hbW2 ⊢
      have hX : OwnG w5 B v ps := HOO.out.below (hbm.trans (hbW2.mono hm))
      have HX := Lib.hid hX
      have HBW := Lib.hid hbW2
      have hWm2 := hW2.lt
      have c0 : w5.cell? ⟨m, 0, none⟩ = some (.int .i32 op) := hW2.c 0
      have c1 : w5.cell? ⟨m, 1, none⟩ = some (.slice none 0 0) := hW2.c 1
      have c2 : w5.cell? ⟨m, 2, none⟩ = some (.bool false) := hW2.c 2
      have c3 : w5.cell? ⟨m, 3, none⟩ = some (.int .i64 at_) := hW2.c 3
      have HA : Hid (Own w5 B 47 .u64 (.slice none 0 0) []) := own_nil _ _ _ _
      clear hX hbW2 hW2
      go_wp2_with (at_builtin; refine wpList_append_lies _ rfl _ _ 22 rfl B 26 i0 _ 4 48 Tryd.underlying22 J1.out J2.out J3.out J4.out rfl (by decide) _ ps.length _ rfl (HX.out.1.alloc _) ⟨w5.heap.size, 0, none⟩ 1 1 (encG (.slice none 0 0, ⟨op, [], false, at_⟩)) rfl rfl (newsG w5 _ rfl) (encG_one _ ⟨_, _, _, rfl⟩) (by decide) ?c3 ?c4 ?c5 (w5.heap.size + 1) (by simp) ?_)
      case c3 => simp only [maxLen]; omega
      case c4 => omega
      case c5 => simp; omega
      intro g9 cap9 w6 hown6 hgrow6 hat6 hlt6
      have HO6 := Lib.hid (entsG_push HX.out HA.out hown6 hgrow6)
      have hbr6 : Below B w w6 := ((HBW.out.mono hBm).alloc (by omega) _).grown hgrow6 (by simp; omega) (fun g hg => (World.ownsRow.lt HX.out.1 g hg).1)
      clear hown6 hgrow6 hat6
      go_wp2_with fail
      go_ret
      exact ⟨_, (.slice none 0 0, ⟨op, [], false, at_⟩), rfl, HO6.out, HE.out.symm, hbr6⟩
end Go.Proofs.YtolampkhohahlaaDoor.g3
