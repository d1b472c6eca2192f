/- Contract of package glyph: Put, over this seat's program. -/
import Derived.Test.YtolampkhohahlaaDoorGlyphZ
import Derived.Test.YtolampkhohahlaaDoorGlyphO
import Derived.Laws.Cover4
import Derived.Laws.Runes
import Derived.Deep.RegionLaw
namespace Go.Proofs.YtolampkhohahlaaDoor.g3
open Go.ChangeShapes Go.WideShapes Go.ChangeAt Go.RowKit frame lift gl own
set_option linter.unusedVariables false
set_option linter.unusedSimpArgs false
theorem bytes_mk (l : List UInt8) : bytes ⟨l.toArray⟩ = l.map fun b => (b.toNat : Int) := by unfold bytes; rfl
theorem encode_bytes (r : Int) (hv : Utf8.valid r = true) : bytes (Utf8.encode r) = utf8 r := by
  have hv' := hv
  unfold Utf8.valid at hv'
  simp at hv'
  unfold Utf8.encode utf8
  rw [if_pos hv]
  dsimp only
  obtain ⟨n, rfl⟩ : ∃ n : Nat, r = n := ⟨r.toNat, by omega⟩
  rw [Int.toNat_natCast]
  by_cases c1 : n < 128
  · rw [if_pos c1, if_pos (by omega)]
    show [((UInt8.ofNat n).toNat : Int)] = _
    simp
    omega
  · rw [if_neg c1, if_neg (show ¬ (n : Int) < 128 by omega)]
    by_cases c2 : n < 2048
    · rw [if_pos c2, if_pos (show (n : Int) < 2048 by omega)]
      show [((UInt8.ofNat (192 + n / 64)).toNat : Int), ((UInt8.ofNat (128 + n % 64)).toNat : Int)] = _
      simp
      omega
    · rw [if_neg c2, if_neg (show ¬ (n : Int) < 2048 by omega)]
      by_cases c3 : n < 65536
      · rw [if_pos c3, if_pos (show (n : Int) < 65536 by omega)]
        show [((UInt8.ofNat (224 + n / 4096)).toNat : Int), ((UInt8.ofNat (128 + n / 64 % 64)).toNat : Int), ((UInt8.ofNat (128 + n % 64)).toNat : Int)] = _
        simp
        omega
      · rw [if_neg c3, if_neg (show ¬ (n : Int) < 65536 by omega)]
        show [((UInt8.ofNat (240 + n / 262144)).toNat : Int), ((UInt8.ofNat (128 + n / 4096 % 64)).toNat : Int), ((UInt8.ofNat (128 + n / 64 % 64)).toNat : Int), ((UInt8.ofNat (128 + n % 64)).toNat : Int)] = _
        simp
        omega
theorem runes_fold (rs : List Int) (h : ∀ r ∈ rs, Utf8.valid r = true) : ∀ s : ByteArray, bytes (rs.foldl (fun r n => r ++ Utf8.encode n) s) = bytes s ++ rs.flatMap utf8 := by
  induction rs with
  | nil => intro s; simp
  | cons r rs ih =>
    intro s
    rw [List.foldl_cons, ih (fun q hq => h q (List.mem_cons_of_mem _ hq)), bytes_app, encode_bytes r (h r (List.mem_cons_self ..)), List.flatMap_cons, List.append_assoc]
theorem runes_bytes (rs : List Int) (h : ∀ r ∈ rs, Utf8.valid r = true) : bytes (runesBytes rs) = rs.flatMap utf8 := by
  unfold runesBytes
  rw [runes_fold rs h]
  rfl
def runes1 (e : Ent) : List Int := e.op :: putA e.args
def runesOf (l : List Ent) : List Int := l.flatMap runes1
theorem ascii_utf8 (X : List Int) (h : ∀ b ∈ X, numb b = true) : X.flatMap utf8 = X := by
  induction X with
  | nil => rfl
  | cons b X ih =>
    have hb : b < 128 := by have := h b (List.mem_cons_self ..); unfold numb at this; simp at this; omega
    rw [List.flatMap_cons, ih (fun c hc => h c (List.mem_cons_of_mem _ hc))]
    unfold utf8
    rw [if_pos hb]
    rfl
theorem runes1_put (e : Ent) : (runes1 e).flatMap utf8 = put1 e := by
  unfold runes1 put1
  rw [List.flatMap_cons, ascii_utf8 _ (putA_numb e.args)]
theorem runesOf_put (l : List Ent) : (runesOf l).flatMap utf8 = put l := by
  unfold runesOf put
  induction l with
  | nil => rfl
  | cons e l ih => rw [List.flatMap_cons, List.flatMap_append, ih, runes1_put, List.flatMap_cons]
theorem runesOf_valid (l : List Ent) (h : ∀ x ∈ l, bad x = false) : ∀ r ∈ runesOf l, Utf8.valid r = true := by
  intro r hr
  unfold runesOf at hr
  obtain ⟨e, he, hr⟩ := List.mem_flatMap.1 hr
  have hb := h e he
  unfold runes1 at hr
  rcases List.mem_cons.1 hr with rfl | hr
  · unfold bad at hb
    simp at hb
    unfold Utf8.valid
    simp
    omega
  · have := putA_numb e.args r hr
    unfold numb at this
    simp at this
    unfold Utf8.valid
    simp
    omega
theorem conv_own {w : World} {B : Nat} {t : Value} {rs : List Int} (h : Own w B 21 .i32 t rs) : (convert 44 9 t).run Tryd.prog w = .ok (.string (runesBytes rs)) w := by
  by_cases hl : 0 < rs.length
  · obtain ⟨g, cap, rfl, _, _, _, hc⟩ := h.at_ hl
    have := run_convert_runes (P := Tryd.prog) w 44 9 21 ⟨g, 0, none⟩ rs.length cap rs (Nat.le_refl _) Tryd.underlying44 Tryd.underlying21 Tryd.underlying9 (fun j hj => by
      rw [add_plain, Nat.zero_add]
      exact hc j hj)
    rw [List.take_length] at this
    exact this
  · have e : rs = [] := List.eq_nil_of_length_eq_zero (by omega)
    subst e
    rcases h.2 with ⟨rfl, _⟩ | ⟨g, cap, cur, rfl, _⟩
    · exact run_convert_runes_nil w 44 9 21 0 0 Tryd.underlying44 Tryd.underlying21 Tryd.underlying9
    · exact run_convert_runes w 44 9 21 ⟨g, 0, none⟩ 0 cap [] (Nat.le_refl _) Tryd.underlying44 Tryd.underlying21 Tryd.underlying9 (fun j hj => by simp at hj)
theorem news32 (w : World) (n : Int) : ∀ j u, ([Value.int .i32 n] : List Value)[j]? = some u → (w.alloc (Obj.cells #[Value.int .i32 n] 21)).cell? ((⟨w.heap.size, 0, none⟩ : Addr).add j) = some u :=
  fun j u hu => World.news_of_block (heap_alloc_new w _) j u (by simpa using hu)
theorem one32 (n : Int) : ∀ u ∈ ([Value.int .i32 n] : List Value), u.oneCell' = true := by
  intro u hu
  simp at hu
  subst hu
  rfl
theorem runesOf_le (l : List Ent) (h : ∀ e ∈ l, e.args.length ≤ 1000) : (runesOf l).length ≤ 30000 * l.length := by
  unfold runesOf
  induction l with
  | nil => simp
  | cons e l ih =>
    have h1 := ih (fun f hf => h f (List.mem_cons_of_mem _ hf))
    have h2 := putA_le e.args
    have h3 := h e (List.mem_cons_self ..)
    rw [List.flatMap_cons, List.length_append, List.length_cons]
    have h4 : (runes1 e).length = (putA e.args).length + 1 := by unfold runes1; rfl
    omega
theorem runesOf_take (l : List Ent) (k : Nat) (hk : k < l.length) : runesOf (l.take (k + 1)) = runesOf (l.take k) ++ [l[k].op] ++ putA l[k].args := by
  unfold runesOf
  rw [List.take_succ_eq_append_getElem hk, List.flatMap_append, List.append_assoc]
  simp [runes1]
theorem own_after_app {w W w3 : World} {b0 g9 cap9 : Nat} {t av : Value} {rs : List Int} {op : Int} {x2 x3 : Value} {T : TypeId} (hO : Own W w.heap.size 21 .i32 t rs) (hB : Below w.heap.size w W) (hblk : W.heap[b0]? = some (.cells #[.int .i32 op, av, x2, x3] T (0, 0))) (hne : t.ownBlock ≠ some b0)
    (hown : w3.ownsRow w.heap.size 21 1 (.slice (some ⟨g9, 0, none⟩) (rs.length + 1) cap9) (rs.length + 1) (rs.map (Value.int .i32) ++ [.int .i32 op])) (hg : (W.drew.alloc (Obj.cells #[.int .i32 op] 21)).grownBy w3 t.ownBlock) :
    w3.cell? ⟨b0, 0, none⟩ = some (.int .i32 op) ∧ w3.cell? ⟨b0, 1, none⟩ = some av ∧ Own w3 w.heap.size 21 .i32 (.slice (some ⟨g9, 0, none⟩) (rs.length + 1) cap9) (rs ++ [op]) ∧ Below w.heap.size w w3 := by
  have hbl := lt_of_heap hblk
  have hk : w3.heap[b0]? = some (.cells #[.int .i32 op, av, x2, x3] T (0, 0)) := by
    rw [hg.block b0 (by simp; omega) (fun e => hne e.symm)]
    have : (W.drew.alloc (Obj.cells #[.int .i32 op] 21)).heap[b0]? = W.drew.heap[b0]? := Below.heap_alloc _ _ _ hbl
    rw [this]
    exact hblk
  refine ⟨cell_of_row w3 b0 0 _ _ _ hk, cell_of_row w3 b0 1 _ _ _ hk, by simpa [Own] using hown, ?_⟩
  exact (hB.drew.alloc hB.size _).grown hg (by have := hB.size; simp; omega) (fun g e => (World.ownsRow.lt hO g e).1)
set_option maxRecDepth 100000 in
set_option maxHeartbeats 8000000 in
theorem gput_any {v : Value} {l : List Ent} (w : World) (hT : Tab w) (h : GLoose w v l) (hok : PutOk l) : Calls Tryd.prog 9 #[v] w (PutPost w l) := by
  have hL := hok.len
  have HK := Lib.hid hok; have HT := Lib.hid hT
  clear hok hT
  obtain ⟨aa, cap, rfl, hform⟩ := gloose_form h
  have HF := Lib.hid hform
  clear h hform
  go_enter Tryd.func9, Tryd.ntmps9
  go_wp2_with fail
  go_loopw [4, 9] (fun t i wr => ∃ k : Nat, k ≤ l.length ∧ i = .int .i64 k ∧ Below w.heap.size w wr ∧ Hid (Own wr w.heap.size 21 .i32 t (runesOf (l.take k))) ∧ Hid (∀ x ∈ l.take k, bad x = false)) (fun _ i _ => l.length - (intOf i).toNat)
  case atStart => exact ⟨0, Nat.zero_le _, rfl, Below.refl _ _, own_nil _ _ _ _, fun x hx => by simp at hx⟩
  case round =>
    obtain ⟨k, hk, rfl, hbr, HO, HG⟩ := hrel
    by_cases hlt : k < l.length
    · obtain ⟨g, o, rfl, hg, hc⟩ := HF.out (by omega)
      obtain ⟨av, d0, d1, d2, ⟨zz, d3⟩, hav⟩ := hc k hlt
      have e0 := (hbr.cell (p := ⟨g, o + k * 4, none⟩) hg).trans d0
      have e1 := (hbr.cell (p := ⟨g, o + k * 4 + 1, none⟩) hg).trans d1
      have e2 := (hbr.cell (p := ⟨g, o + k * 4 + 2, none⟩) hg).trans d2
      have e3 := (hbr.cell (p := ⟨g, o + k * 4 + 3, none⟩) hg).trans d3
      have HAV := Lib.hid hav
      obtain ⟨pa, pca, rfl, _⟩ := ints_form' hav
      have hargs := HK.out.args l[k] (List.getElem_mem hlt)
      have hal := hargs.1
      have HAR := Lib.hid hargs.2
      have hi1 : (0 : Int) ≤ (k : Int) := by omega
      have hi2 : (k : Int) < (l.length : Int) := by omega
      clear hc d0 d1 d2 d3 hav hargs
      have hbi := bad_is l[k]
      have HBI := Lib.hid hbi
      clear hbi
      cases hokb : l[k].ok with
      | false =>
        have HB : Hid (bad l[k] = true) := by unfold Hid; rw [HBI.out, hokb]; rfl
        rw [hokb] at e2
        clear hokb
        go_wp2_with fail
        go_ret2
        exact ⟨hbr.alloc hbr.size _, .inl ⟨⟨l[k], List.getElem_mem hlt, HB.out⟩, rfl⟩⟩
      | true =>
        rw [hokb] at e2
        have HOKB := Lib.hid hokb
        clear hokb
        go_wp2_with fail
        refine (mayBegin_any l[k].op _).mono ?_
        rintro e w2 ⟨he, rfl⟩
        cases hmb : mayB l[k].op with
        | false =>
          have HB : Hid (bad l[k] = true) := by unfold Hid; rw [HBI.out, hmb]; simp
          rw [hmb] at he
          subst he
          clear hmb
          go_wp2_with fail
          go_ret2
          exact ⟨hbr.alloc hbr.size _, .inl ⟨⟨l[k], List.getElem_mem hlt, HB.out⟩, rfl⟩⟩
        | true =>
          have HB : Hid (bad l[k] = false) := by unfold Hid; rw [HBI.out, hmb, HOKB.out]; rfl
          rw [hmb] at he
          subst he
          clear hmb
          have hlk : (runesOf (l.take k)).length ≤ 30000 * k := by
            have := runesOf_le (l.take k) (fun e he => (HK.out.args e (List.mem_of_mem_take he)).1)
            rw [List.length_take] at this
            omega
          have HRT := Lib.hid (runesOf_take l k hlt)
          have hq1 : (runesOf (l.take k)).length + 1 ≤ maxLen := by simp only [maxLen]; omega
          have hrl : (runesOf (l.take k) ++ [l[k].op]).length ≤ 1000000000 := by rw [List.length_append, List.length_singleton]; omega
          have hq2 : ((runesOf (l.take k)).length + 1) * 4 ≤ 140737488355328 := by omega
          have hW := HO.out.alloc (Obj.cells #[.int .i32 l[k].op, .slice pa l[k].args.length pca, .bool true, .int .i64 zz] 26)
          have hBW := hbr.alloc hbr.size (Obj.cells #[.int .i32 l[k].op, .slice pa l[k].args.length pca, .bool true, .int .i64 zz] 26)
          have hblk := heap_alloc_new wr (Obj.cells #[.int .i32 l[k].op, .slice pa l[k].args.length pca, .bool true, .int .i64 zz] 26)
          have hne : u4.ownBlock ≠ some wr.heap.size := fun e => by have := (World.ownsRow.lt HO.out _ e).2; omega
          obtain ⟨i0, hi, hz0, hz1, hz2⟩ := info_parts info32
          have J1 := Lib.hid hi; have J2 := Lib.hid hz0; have J3 := Lib.hid hz1; have J4 := Lib.hid hz2; clear hi hz0 hz1 hz2
          clear e0 e1 e2 e3
          go_wp2_with fail
          generalize wr.alloc (Obj.cells #[.int .i32 l[k].op, .slice pa l[k].args.length pca, .bool true, .int .i64 zz] 26) = W at hW hBW hblk ⊢
          generalize wr.heap.size = b0 at hblk hne ⊢
          clear HO hbr
          have c0 : W.cell? ⟨b0, 0, none⟩ = some (.int .i32 l[k].op) := cell_of_row W b0 0 _ _ _ hblk
          have c1 : W.cell? ⟨b0, 1, none⟩ = some (.slice pa l[k].args.length pca) := cell_of_row W b0 1 _ _ _ hblk
          have HO := Lib.hid hW; have HBR := Lib.hid hBW; have HBLK := Lib.hid hblk; have HNE := Lib.hid hne
          have hbl : b0 < W.heap.size := lt_of_heap hblk
          have hsz := hBW.size
          clear hW hBW hblk hne
          go_region_law (first
            | ((refine step_append_lies _ rfl _ _ 44 rfl w.heap.size 21 i0 _ 1 4 Tryd.underlying44 J1.out J2.out J3.out J4.out rfl (by decide) _ (runesOf (l.take k)).length _ rfl (World.ownsRow.alloc HO.out _) ⟨W.heap.size, 0, none⟩ 1 1 [.int .i32 l[k].op] rfl rfl (news32 W _) (one32 _) (by decide) hq1 hq2 (by simp; omega) (W.heap.size + 1) (by simp) ?_); intro g9 cap9 w3 hown hgrow hat hlt9; (have hb3 := own_after_app HO.out HBR.out HBLK.out HNE.out hown hgrow); (obtain ⟨p0, p1, p2, p3⟩ := hb3); (have HO3 := Lib.hid p2); (have HB3 := Lib.hid p3); clear hown hgrow hat hlt9 p2 p3)
            | (go_simp; go_at_call 18; (refine (withNumbers_any HT.out HB3.out HO3.out HAV.out HAR.out hal hrl).mono ?_); rintro e w4 ⟨v4, rfl, hO4, hb4⟩; (have HO4 := Lib.hid hO4); (have HB4 := Lib.hid hb4); clear hO4 hb4))
          all_goals
            go_wp2_with fail
            go_roundw
            case rel =>
              refine ⟨k + 1, by omega, by go_num, HB4.out, ?_, fun x hx => ?_⟩
              · unfold Hid
                rw [HRT.out]
                exact HO4.out
              · rw [List.take_succ_eq_append_getElem hlt] at hx
                rcases List.mem_append.1 hx with hx | hx
                · exact HG.out x hx
                · simp at hx
                  subst hx
                  exact HB.out
            case measure => simp [intOf]; omega
    · obtain rfl : k = l.length := by omega
      have hO := HO.out
      have hG := HG.out
      rw [List.take_length] at hO hG
      have hcv := conv_own hO
      have HV : Hid (bytes (runesBytes (runesOf l)) = put l) := by
        unfold Hid
        rw [runes_bytes _ (runesOf_valid l hG), runesOf_put]
      have HG2 := Lib.hid hG
      clear hO hG HO HG
      go_wp2_with fail
      go_ret2
      exact ⟨hbr, .inr ⟨HG2.out, _, rfl, HV.out⟩⟩
end Go.Proofs.YtolampkhohahlaaDoor.g3
