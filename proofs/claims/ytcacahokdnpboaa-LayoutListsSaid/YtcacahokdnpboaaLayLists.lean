/- LayoutLists: nodes that are written one behind the other are the list that is told; one more link back makes none of it: no condition. -/
import Derived.Test.YtcacahokdnpboaaLayW
import Derived.Test.YtcacahokdnpboaaLayO
import Derived.Test.YtcacahokdnpboaaHoldR
import Derived.Test.YtcacahokdnpboaaPack
namespace Go.Proofs.Ytcacahokdnpboaa.layoutLists
open Go.ChangeShapes Go.WideShapes Go.ChangeAt Go.RowKit frame lift sep own join ly
set_option linter.unusedVariables false
theorem map_nth {k : IntKind} {ws : List Int} {m : Nat} (h : m < ws.length) : (ws.map (Value.int k))[m]? = some (.int k (nth ws m)) := by simp [nth, List.getD, h]
theorem nth_i64 {l : List Int} (h : Fit .i64 l) (k : Nat) : -9223372036854775808 ≤ nth l k ∧ nth l k ≤ 9223372036854775807 := by
  by_cases hk : k < l.length
  · have : nth l k = l[k] := by simp [nth, List.getD, hk]
    rw [this]
    exact bd_i64 (h _ (List.getElem_mem hk))
  · have : nth l k = 0 := by simp [nth, List.getD, hk]
    rw [this]
    decide
theorem news1 (w : World) (x : Int) (t : TypeId) : ∀ j u, [Value.int .u32 x][j]? = some u → (w.alloc (.cells #[.int .u32 x] t (0, 0))).cell? ((⟨w.heap.size, 0, none⟩ : Addr).add j) = some u := fun j u hj => by
  rw [add_plain, Nat.zero_add, cell_of_row _ _ j _ _ _ (heap_alloc_new w _)]
  simpa using hj
set_option maxRecDepth 100000 in
set_option maxHeartbeats 16000000 in
theorem walk (a0 a1 : Int) (v2 : Value) (os : List Int) (a3 a4 : Int) (f0 : (Lit.int .i64 a0).wf = true) (f1 : (Lit.int .i64 a1).wf = true) (f3 : (Lit.int .u32 a3).wf = true) (f4 : (Lit.int .i64 a4).wf = true) (w : World) (f2 : Ints w .i64 v2 os) (z2 : Fit .i64 os) :
    Calls Try.prog 7 #[.int .i64 a0, .int .i64 a1, v2, .int .u32 a3, .int .i64 a4] w fun e w' => e = .returned (.bool true) ∧ Below w.heap.size w w' := by
  have g0 := bd_i64 f0; have g1 := bd_i64 f1
  obtain ⟨t0, t1⟩ := bd_u32 f3
  obtain ⟨g4, g4'⟩ := bd_i64 f4
  have HCF := Lib.hid (fun w => config_any a0 a1 0 a3 g0 g1 (by unfold I64; omega) w)
  have hok := cfgOf_ok a0 a1 0 a3
  have hcf : cfgOf a0 a1 0 a3 = ⟨1 + pickI a0 64, pickI a1 17, 0, a3⟩ := rfl
  obtain ⟨n, hn⟩ : ∃ n, 1 + pickI a0 64 = n := ⟨_, rfl⟩
  obtain ⟨s, hs⟩ : ∃ s, pickI a1 17 = s := ⟨_, rfl⟩
  rw [hn, hs] at hcf
  rw [hcf] at HCF hok
  obtain ⟨t, ht⟩ : ∃ t, a3 = t := ⟨_, rfl⟩
  rw [ht] at HCF hok hcf t0 t1 ⊢
  have hto : TagOk ⟨n, s, 0, t⟩ := ⟨t0, t1⟩
  have HOK := Lib.hid hok
  have HFR := Lib.hid (fun w => fresh_any ⟨n, s, 0, t⟩ hto w)
  have hE : checkE ⟨n, s, 0, t⟩ = 0 := by simp [checkE, hok]
  rw [hE] at HFR
  have HFIT0 := Lib.hid (fresh_fit hok hto)
  have hlen := fresh_len ⟨n, s, 0, t⟩
  have hcn := cells_ok hok
  obtain ⟨b1, b2, b3, b4, _⟩ := id hok
  dsimp only at b1 b2 b3 b4 hcn
  obtain ⟨ws0, hws0⟩ : ∃ ws, freshL ⟨n, s, 0, t⟩ = ws := ⟨_, rfl⟩
  rw [hws0] at HFR HFIT0 hlen
  have HCN : Hid (cellsN ⟨n, s, 0, t⟩ = (ws0.length : Int)) := hlen.symm
  have HNN : Hid (2 + 2 * n ≤ (ws0.length : Int)) := by unfold Hid; omega
  have hwl1 : ws0.length ≤ 1000 := by omega
  have hwl2 : 0 < ws0.length := by omega
  have HI := Lib.hid f2
  have HZ := Lib.hid z2
  obtain ⟨ao, co, rfl, hfo⟩ := form f2
  have HFO := Lib.hid hfo
  have hn2 : n ≤ 9223372036854775807 := by omega
  have hn3 : 0 < n := by omega
  obtain ⟨i32, hi32, hy0, hy1, hy2⟩ := info_parts info32
  have J1 := Lib.hid hi32; have J2 := Lib.hid hy0; have J3 := Lib.hid hy1; have J4 := Lib.hid hy2
  clear f0 f1 f2 f3 f4 z2 hok hcf hn hs hE hlen hcn hws0 hfo hto ht hi32 hy0 hy1 hy2
  by_cases hbig : 100 < os.length
  · have hb1 : (100 : Int) < (os.length : Int) := by omega
    go_enter Try.func7, Try.ntmps7
    go_wp2_with fail
    refine (shown_any _).mono ?_
    rintro e w1 ⟨rfl, hb⟩
    have H1 := Lib.hid ((Hold.empty w).on hb)
    clear hb
    go_wp2_with fail
    refine (HCF.out _).mono ?_
    rintro e w2 ⟨rfl, hb⟩
    have h2 := (H1.out.on hb).newBlk (Obj.cells #[.int .i64 n, .int .i64 s, .int .i64 0, .int .u32 t] 24)
    obtain ⟨Bc, hBc⟩ : ∃ B, w2.heap.size = B := ⟨_, rfl⟩
    rw [hBc] at h2
    have H2 := Lib.hid h2
    obtain ⟨c0, c1, c2, c3⟩ := cells4 H2.out
    clear hb h2
    go_wp2_with fail
    refine (HFR.out _).mono ?_
    rintro e w3 ⟨wv, rfl, hwv, hb⟩
    have h3 := H2.out.made hb hwv
    obtain ⟨g, cw, rfl, _, _, _, _, hne1, hge⟩ := h3.rowAt hwl2
    have hne1 : ¬ g = Bc := hne1 Bc _ (List.mem_cons_self ..)
    have hge := hge rfl
    have H3 := Lib.hid h3
    have HG := Lib.hid hge
    clear h3 hge hb hwv c0 c1 c2 c3 hBc
    obtain ⟨c0, c1, c2, c3⟩ := cells4 H3.out.swap
    go_wp2_with fail
    refine (cells_p n s 0 t _).mono ?_
    rintro e w4 ⟨rfl, hb⟩
    rw [HCN.out]
    have H4 := Lib.hid (H3.out.on hb)
    clear hb c0 c1 c2 c3
    go_wp2_with fail
    go_ret
    exact ⟨rfl, H4.out.below⟩
  · have hb1 : ¬ (100 : Int) < (os.length : Int) := by omega
    go_enter Try.func7, Try.ntmps7
    go_wp2_with fail
    refine (shown_any _).mono ?_
    rintro e w1 ⟨rfl, hb⟩
    have H1 := Lib.hid ((Hold.empty w).on hb)
    clear hb
    go_wp2_with fail
    refine (HCF.out _).mono ?_
    rintro e w2 ⟨rfl, hb⟩
    have h2 := (H1.out.on hb).newBlk (Obj.cells #[.int .i64 n, .int .i64 s, .int .i64 0, .int .u32 t] 24)
    obtain ⟨Bc, hBc⟩ : ∃ B, w2.heap.size = B := ⟨_, rfl⟩
    rw [hBc] at h2
    have H2 := Lib.hid h2
    obtain ⟨c0, c1, c2, c3⟩ := cells4 H2.out
    clear hb h2
    go_wp2_with fail
    refine (HFR.out _).mono ?_
    rintro e w3 ⟨wv, rfl, hwv, hb⟩
    have h3 := H2.out.made hb hwv
    obtain ⟨g, cw, rfl, _, _, _, _, hne1, hge⟩ := h3.rowAt hwl2
    have hne1 : ¬ g = Bc := hne1 Bc _ (List.mem_cons_self ..)
    have hge := hge rfl
    have H3 := Lib.hid h3
    have HG := Lib.hid hge
    clear h3 hge hb hwv c0 c1 c2 c3 hBc
    obtain ⟨c0, c1, c2, c3⟩ := cells4 H3.out.swap
    go_wp2_with fail
    refine (cells_p n s 0 t _).mono ?_
    rintro e w4 ⟨rfl, hb⟩
    rw [HCN.out]
    have H4 := Lib.hid (H3.out.on hb)
    clear hb c0 c1 c2 c3
    go_wp2_with fail
    have H5 := Lib.hid (H4.out.nilRow 22 1)
    go_loopw [15, 16] (fun nv iv wr => ∃ (k : Nat) (L : List Int) (lv : Value), nv = lv ∧ iv = .int .i64 k ∧ k ≤ os.length ∧ L.length ≤ k ∧ Hid (L.Nodup ∧ ∀ x ∈ L, 1 ≤ x ∧ x ≤ n) ∧ Hid (Hold (fun _ => False) w [row 22 1 lv L.length (L.map (Value.int .u32)), row 43 1 (.slice (some ⟨g, 0, none⟩) ws0.length cw) ws0.length ((ws0).map (Value.int .u64)), blk Bc (Obj.cells #[.int .i64 n, .int .i64 s, .int .i64 0, .int .u32 t] 24)] wr)) (fun _ iv _ => os.length - (intOf iv).toNat)
    case atStart => exact ⟨0, [], _, rfl, rfl, Nat.zero_le _, Nat.le_refl _, ⟨List.nodup_nil, fun x hx => by cases hx⟩, H5.out⟩
    case round =>
      obtain ⟨k, L, lv, hvv, rfl, hk, hLk, HL, HX⟩ := hrel
      have hv2 := hvv.symm
      clear hvv
      subst hv2
      obtain ⟨c0, c1, c2, c3⟩ := cfAt HX.out (b := Bc) (n := n) (s := s) (h := 0) (t := t) (e := 24) (by simp)
      have hk0 : (0 : Int) ≤ (k : Int) := by omega
      obtain ⟨al, cl, rfl, hcl1, hcl2⟩ : ∃ a c, lv = .slice a L.length c ∧ L.length ≤ c ∧ c ≤ maxLen := by
        obtain ⟨F, hh⟩ := HX.out.get _ (List.mem_cons_self ..)
        exact hh.2.slice
      by_cases hlt : k < os.length
      · have hlt1 : (k : Int) < (os.length : Int) := by omega
        obtain ⟨_, _, go_, oo, rfl, hgo, hco⟩ := HFO.out (by omega)
        obtain ⟨x, hx⟩ : ∃ x, nth os k = x := ⟨_, rfl⟩
        obtain ⟨xb0, xb1⟩ := nth_i64 HZ.out k
        have HCO := Lib.hid (hco k hlt)
        rw [hx] at xb0 xb1 HCO
        have HGO := Lib.hid hgo
        obtain ⟨y, hy⟩ : ∃ y, pickI x n = y := ⟨_, rfl⟩
        have hyb := pickI_bd x n (by omega)
        rw [hy] at hyb
        obtain ⟨y0, y1⟩ := hyb
        have HY := Lib.hid hy
        have hwy1 : IntKind.i64.wrap (1 + y) = 1 + y := IntWalk.i64_in _ (by omega)
        have hwy2 : IntKind.u32.wrap (1 + y) = 1 + y := by rw [IntKind.wrap_u32]; omega
        have HXd := Lib.hid HX.out.drew
        have e5 : wr.drew.cell? ⟨go_, oo + k, none⟩ = some (.int .i64 x) := (HXd.out.below.cell (p := ⟨go_, oo + k, none⟩) HGO.out).trans HCO.out
        obtain ⟨z, hz⟩ : ∃ z, 1 + y = z := ⟨_, rfl⟩
        have hz0 : 1 ≤ z := by omega
        have hz1 : z ≤ n := by omega
        clear hco hx hy hgo
        go_wp2_with fail
        clear c0 c1 c2 c3
        obtain ⟨c0, c1, c2, c3⟩ := cfAt HXd.out (b := Bc) (n := n) (s := s) (h := 0) (t := t) (e := 24) (by simp)
        go_region_held3 (fun w' => w'.cell? ⟨Bc, 0, none⟩ = some (.int .i64 n) ∧ w'.cell? ⟨go_, oo + k, none⟩ = some (.int .i64 x)) (go_keep) ((go_at_call 35; (refine (pick_any x n xb0 xb1 hn3 hn2 _).mono ?_); rintro e w13 ⟨rfl, rfl⟩; rw [HY.out]))
        go_wp2_with fail
        have HR0 := Lib.hid (HXd.out.rowIs (e := 22) (size := 1) (List.mem_cons_self ..))
        have HINL : Hid (Ints wr.drew .u32 (.slice al L.length cl) L) := row_ints HR0.out
        obtain ⟨al', cl', hvl, hfl⟩ := form HINL.out
        simp only [Value.slice.injEq, true_and] at hvl
        obtain ⟨rfl, rfl⟩ := hvl
        have HFL := Lib.hid hfl
        clear hfl c0 c1 c2 c3 e5
        go_loopw [18, 19] (fun tv jv wv => ∃ (j : Nat) (th : Bool), jv = .int .i64 j ∧ tv = .bool th ∧ j ≤ L.length ∧ Hid (th = decide (z ∈ L.take j)) ∧ wv = wr.drew) (fun _ jv _ => L.length - (intOf jv).toNat)
        case atStart => exact ⟨0, false, rfl, rfl, Nat.zero_le _, by simp [Hid], rfl⟩
        case round =>
          obtain ⟨j, th, rfl, rfl, hj, HTH, rfl⟩ := hrel
          have hj0 : (0 : Int) ≤ (j : Int) := by omega
          by_cases hjl : j < L.length
          · have hj1 : (j : Int) < (L.length : Int) := by omega
            obtain ⟨_, _, gl, ol, rfl, hgl, hcl⟩ := HFL.out (by omega)
            have e6 := hcl j hjl
            have hmem : decide (z ∈ L.take (j + 1)) = (decide (z ∈ L.take j) || decide (nth L j = z)) := by
              rw [List.take_succ_eq_append_getElem hjl]
              have e : nth L j = L[j] := by simp [nth, List.getD, hjl]
              rw [e, Bool.eq_iff_iff]
              simp only [decide_eq_true_eq, Bool.or_eq_true, List.mem_append, List.mem_singleton]
              exact or_congr Iff.rfl ⟨Eq.symm, Eq.symm⟩
            obtain ⟨q, hq⟩ : ∃ q, nth L j = q := ⟨_, rfl⟩
            rw [hq] at e6 hmem
            have HME := Lib.hid hmem
            clear hcl hmem hq
            cases th with
            | true =>
              have HT2 : Hid (true = decide (z ∈ L.take (j + 1))) := by unfold Hid; rw [HME.out, ← HTH.out]; rfl
              go_wp2_with fail
              go_roundw
              case rel => exact ⟨j + 1, true, by go_num, rfl, by omega, HT2.out, by first | rfl | trivial⟩
              case measure => simp [intOf]; omega
            | false =>
              by_cases hqz : q = z
              · have hqz' : (q == z) = true := by simpa using hqz
                have HT2 : Hid (true = decide (z ∈ L.take (j + 1))) := by unfold Hid; rw [HME.out, ← HTH.out, decide_eq_true hqz]; rfl
                clear hqz
                go_wp2_with fail
                go_roundw
                case rel => exact ⟨j + 1, true, by go_num, rfl, by omega, HT2.out, by first | rfl | trivial⟩
                case measure => simp [intOf]; omega
              · have hqz' : (q == z) = false := by simpa using hqz
                have HT2 : Hid (false = decide (z ∈ L.take (j + 1))) := by unfold Hid; rw [HME.out, ← HTH.out, decide_eq_false hqz]; rfl
                clear hqz
                go_wp2_with fail
                go_roundw
                case rel => exact ⟨j + 1, false, by go_num, rfl, by omega, HT2.out, by first | rfl | trivial⟩
                case measure => simp [intOf]; omega
          · have hge : ¬ (j : Int) < (L.length : Int) := by omega
            have HTL : Hid (th = decide (z ∈ L)) := by
              have := HTH.out
              rw [List.take_of_length_le (by omega)] at this
              exact this
            cases th with
            | true =>
              go_wp2_with fail
              go_roundw
              case rel => exact ⟨k + 1, L, _, rfl, by go_num, by omega, by omega, HL.out, HXd.out⟩
              case measure => simp [intOf]; omega
            | false =>
              have hni : z ∉ L := of_decide_eq_false HTL.out.symm
              have HL2 : Hid ((L ++ [z]).Nodup ∧ ∀ x ∈ L ++ [z], 1 ≤ x ∧ x ≤ n) := by
                refine ⟨?_, fun x hx => ?_⟩
                · rw [List.nodup_append]
                  refine ⟨HL.out.1, by simp, ?_⟩
                  intro a ha b hb
                  simp at hb
                  subst hb
                  exact fun e => hni (e ▸ ha)
                · rcases List.mem_append.1 hx with hx | hx
                  · exact HL.out.2 x hx
                  · simp at hx
                    subst hx
                    exact ⟨hz0, hz1⟩
              clear hni
              go_wp2_with ((at_builtin; (refine wpList_append_lies _ rfl _ _ 44 rfl 0 22 i32 (.int .u32 0) 1 4 Try.underlying44 J1.out J2.out J3.out J4.out rfl (by decide) (.slice al L.length cl) L.length _ rfl (HR0.out.alloc _) ⟨wr.drew.heap.size, 0, none⟩ 1 1 [.int .u32 z] rfl rfl (news1 wr.drew _ _) ?e2 (by decide) ?e3 ?e4 (Nat.zero_le _) (wr.drew.heap.size + 1) (by simp) ?_)))
              case e2 => first | rfl | (intro u hu; simp at hu; subst hu; rfl)
              case e3 => simp only [maxLen]; omega
              case e4 => omega
              intro g6 c6 w14 hown hgrow hat hlt6
              have hx4 := (HXd.out.alloc (Obj.cells #[.int .u32 z] 22)).appended (n' := L.length + 1) (xs' := L.map (Value.int .u32) ++ [.int .u32 z]) hown hgrow (by simpa using hat) hlt6
              have HX5 : Hid (Hold (fun _ => False) w [row 22 1 (.slice (some ⟨g6, 0, none⟩) (L.length + 1) c6) (L ++ [z]).length ((L ++ [z]).map (Value.int .u32)), row 43 1 (.slice (some ⟨g, 0, none⟩) ws0.length cw) ws0.length ((ws0).map (Value.int .u64)), blk Bc (Obj.cells #[.int .i64 n, .int .i64 s, .int .i64 0, .int .u32 t] 24)] w14) := by
                rw [List.map_append, List.length_append]
                exact hx4
              clear hown hgrow hat hx4
              go_wp2_with fail
              go_roundw
              case rel => exact ⟨k + 1, L ++ [z], _, rfl, by go_num, by omega, by simp; omega, HL2.out, HX5.out⟩
              case measure => simp [intOf]; omega
      · have hge : ¬ (k : Int) < (os.length : Int) := by omega
        by_cases h0 : 0 < L.length
        · have hnz : ((L.length : Int) == 0) = false := by rw [beq_eq_false_iff_ne]; omega
          obtain ⟨gl, cl2, hvl, _, _, _, _, hnel, _⟩ := HX.out.rowAt h0
          simp only [Value.slice.injEq, true_and] at hvl
          obtain ⟨rfl, rfl⟩ := hvl
          have hneA : ¬ gl = Bc := hnel Bc _ (List.mem_cons_of_mem _ (List.mem_cons_self ..))
          have hneB : ¬ g = gl := fun e => HX.out.apart2 e.symm
          have hneC : ¬ g = Bc := hne1
          have HN : Hid (Nodes ⟨n, s, 0, t⟩ L) := ⟨HOK.out, HL.out.1, HL.out.2⟩
          have HW0 : Hid (Wr ⟨n, s, 0, t⟩ L 0 ws0) := ⟨HCN.out.symm, HFIT0.out, fun j hj => by omega, fun j hj => by omega⟩
          have hLl := HN.out.len
          have rowL : ∀ (ws : List Int) (wq : World), Hold (fun _ => False) w [row 22 1 (.slice (some ⟨gl, 0, none⟩) L.length cl) L.length (L.map (Value.int .u32)), row 43 1 (.slice (some ⟨g, 0, none⟩) ws0.length cw) ws0.length ((ws).map (Value.int .u64)), blk Bc (Obj.cells #[.int .i64 n, .int .i64 s, .int .i64 0, .int .u32 t] 24)] wq → (∀ j, j < L.length → wq.cell? ⟨gl, j, none⟩ = some (.int .u32 (nth L j))) := fun ws wq hh j hj => by
            obtain ⟨g9, c9, hv9, _, _, hce, _, _, _⟩ := hh.rowAt h0
            simp only [Value.slice.injEq, Option.some.injEq, Addr.mk.injEq, and_true, true_and] at hv9
            obtain ⟨rfl, rfl⟩ := hv9
            exact (hce j hj).trans (map_nth hj)
          have rowW : ∀ (ws : List Int) (wq : World), ws.length = ws0.length → Hold (fun _ => False) w [row 22 1 (.slice (some ⟨gl, 0, none⟩) L.length cl) L.length (L.map (Value.int .u32)), row 43 1 (.slice (some ⟨g, 0, none⟩) ws0.length cw) ws0.length ((ws).map (Value.int .u64)), blk Bc (Obj.cells #[.int .i64 n, .int .i64 s, .int .i64 0, .int .u32 t] 24)] wq → (∀ j, j < ws0.length → wq.cell? ⟨g, j, none⟩ = some (.int .u64 (nth ws j)) ∧ wq.frozen? ⟨g, j, none⟩ = false) := fun ws wq hl hh j hj => by
            obtain ⟨g9, c9, hv9, _, _, hce, hfr, _, _⟩ := hh.swap.rowAt hwl2
            simp only [Value.slice.injEq, Option.some.injEq, Addr.mk.injEq, and_true, true_and] at hv9
            obtain ⟨rfl, rfl⟩ := hv9
            exact ⟨(hce j hj).trans (map_nth (by omega)), hfr j⟩
          have setW : ∀ (ws : List Int) (wq : World) (j : Nat) (x : Int), Hold (fun _ => False) w [row 22 1 (.slice (some ⟨gl, 0, none⟩) L.length cl) L.length (L.map (Value.int .u32)), row 43 1 (.slice (some ⟨g, 0, none⟩) ws0.length cw) ws0.length ((ws).map (Value.int .u64)), blk Bc (Obj.cells #[.int .i64 n, .int .i64 s, .int .i64 0, .int .u32 t] 24)] wq → Hold (fun _ => False) w [row 22 1 (.slice (some ⟨gl, 0, none⟩) L.length cl) L.length (L.map (Value.int .u32)), row 43 1 (.slice (some ⟨g, 0, none⟩) ws0.length cw) ws0.length ((ws.set j x).map (Value.int .u64)), blk Bc (Obj.cells #[.int .i64 n, .int .i64 s, .int .i64 0, .int .u32 t] 24)] (wq.setCell ⟨g, j, none⟩ (.int .u64 x)) := fun ws wq j x hh => by
            have := (hh.swap.rowStore j (.int .u64 x)).swap
            rwa [← List.map_set] at this
          have ROWLH := Lib.hid rowL; have ROWWH := Lib.hid rowW; have SETWH := Lib.hid setW
          have WLEN : Hid (∀ (i : Nat) (ws : List Int), Wr ⟨n, s, 0, t⟩ L i ws → ws.length = ws0.length) := fun i ws h => by have h1 := h.len; have h2 := HCN.out; omega
          clear rowL rowW setW hnel
          go_wp2_with fail
          clear c0 c1 c2 c3
          go_loopw [20] (fun iv wr => ∃ (i : Nat) (ws : List Int), iv = .int .i64 i ∧ i ≤ L.length ∧ Hid (Wr ⟨n, s, 0, t⟩ L i ws) ∧ Hid (Hold (fun _ => False) w [row 22 1 (.slice (some ⟨gl, 0, none⟩) L.length cl) L.length (L.map (Value.int .u32)), row 43 1 (.slice (some ⟨g, 0, none⟩) ws0.length cw) ws0.length ((ws).map (Value.int .u64)), blk Bc (Obj.cells #[.int .i64 n, .int .i64 s, .int .i64 0, .int .u32 t] 24)] wr)) (fun iv _ => L.length - (intOf iv).toNat)
          case atStart => exact ⟨0, ws0, rfl, Nat.zero_le _, HW0.out, HX.out⟩
          case round =>
            clear HX hge hk hLk hk0
            obtain ⟨i, ws, rfl, hi, HWR, HX⟩ := hrel
            obtain ⟨c0, c1, c2, c3⟩ := cfAt HX.out (b := Bc) (n := n) (s := s) (h := 0) (t := t) (e := 24) (by simp)
            have hi0 : (0 : Int) ≤ (i : Int) := by omega
            by_cases hil : i < L.length
            · have hi1 : (i : Int) < (L.length : Int) := by omega
              obtain ⟨l0, l1⟩ := HN.out.at_ hil
              dsimp only at l1
              obtain ⟨li, hli⟩ : ∃ li, nth L i = li := ⟨_, rfl⟩
              obtain ⟨X, hX⟩ : ∃ X, nextL L i = X := ⟨_, rfl⟩
              obtain ⟨X0, X1⟩ := nextL_bd HN.out i
              rw [hli] at l0 l1
              rw [hX] at X0 X1
              obtain ⟨m, hm⟩ : ∃ m : Nat, 2 * li = m := ⟨(2 * li).toNat, by omega⟩
              have HM : Hid (nextP ⟨n, s, 0, t⟩ li = (m : Int)) := by rw [← hm]; simp [Hid, nextP, HOK.out, l0, l1]
              obtain ⟨m1, hm1⟩ : ∃ m1 : Nat, m + 1 = m1 := ⟨_, rfl⟩
              have HMV : Hid (valueP ⟨n, s, 0, t⟩ li = (m1 : Int)) := by simp [Hid, valueP, HOK.out, l0, l1]; omega
              have hml : m1 < ws0.length := by have := HNN.out; omega
              have hml0 : m < ws0.length := by omega
              have hmI0 : (0 : Int) ≤ (m : Int) := by omega
              have hmI1 : (m : Int) < (ws0.length : Int) := by omega
              have hmI2 : (0 : Int) ≤ (m1 : Int) := by omega
              have hmI3 : (m1 : Int) < (ws0.length : Int) := by omega
              have l2 : 0 ≤ li := by omega
              have l3 : li ≤ 4294967295 := by omega
              have X2 : X ≤ 4294967295 := by omega
              have hwi1 : IntKind.i64.wrap ((i : Int) + 1) = (i : Int) + 1 := IntWalk.i64_in _ (by omega)
              have hwi2 : IntKind.i64.wrap (1000 + (i : Int)) = 1000 + (i : Int) := IntWalk.i64_in _ (by omega)
              have hwi3 : IntKind.u64.wrap (1000 + (i : Int)) = 1000 + (i : Int) := by rw [IntKind.wrap_u64]; omega
              obtain ⟨V, hV⟩ : ∃ V, t * 4294967296 + X = V := ⟨_, rfl⟩
              have HV := Lib.hid hV
              have HWR2 : Hid (Wr ⟨n, s, 0, t⟩ L (i + 1) ((ws.set m V).set m1 (1000 + (i : Int)))) := by
                have := HWR.out.next HN.out hil t0 t1
                rw [hli, hX] at this
                have e1 : (2 * li).toNat = m := by omega
                have e2 : (2 * li + 1).toNat = m1 := by omega
                have e3 : wordP X t = V := by rw [← hV]; unfold wordP; omega
                rwa [e1, e2, e3] at this
              have HLI : Hid (∀ (wq : World) (ws : List Int), Hold (fun _ => False) w [row 22 1 (.slice (some ⟨gl, 0, none⟩) L.length cl) L.length (L.map (Value.int .u32)), row 43 1 (.slice (some ⟨g, 0, none⟩) ws0.length cw) ws0.length ((ws).map (Value.int .u64)), blk Bc (Obj.cells #[.int .i64 n, .int .i64 s, .int .i64 0, .int .u32 t] 24)] wq → wq.cell? ⟨gl, i, none⟩ = some (.int .u32 li)) := fun wq ws hh => by rw [← hli]; exact ROWLH.out _ _ hh i hil
              have HNX : Hid (∀ (wq : World) (ws : List Int), i + 1 < L.length → Hold (fun _ => False) w [row 22 1 (.slice (some ⟨gl, 0, none⟩) L.length cl) L.length (L.map (Value.int .u32)), row 43 1 (.slice (some ⟨g, 0, none⟩) ws0.length cw) ws0.length ((ws).map (Value.int .u64)), blk Bc (Obj.cells #[.int .i64 n, .int .i64 s, .int .i64 0, .int .u32 t] 24)] wq → wq.cell? ⟨gl, i + 1, none⟩ = some (.int .u32 X)) := fun wq ws hj hh => by
                rw [← hX]
                unfold nextL
                rw [if_pos hj]
                exact ROWLH.out _ _ hh (i + 1) hj
              have hXz : ¬ i + 1 < L.length → X = 0 := fun h => by rw [← hX]; unfold nextL; rw [if_neg h]
              have HXZ := Lib.hid hXz
              clear hm hm1 hli hX hXz hV
              by_cases hjl : i + 1 < L.length
              · have hj1 : (i : Int) + 1 < (L.length : Int) := by omega
                have hj0 : (0 : Int) ≤ (i : Int) + 1 := by omega
                have e7 := HNX.out _ _ hjl HX.out
                have hc1 : ((i + 1 : Nat) : Int) = (i : Int) + 1 := by push_cast; rfl
                go_wp2_with fail
                have HXd := Lib.hid HX.out.drew
                have e8 := HLI.out _ _ HXd.out
                clear c0 c1 c2 c3
                obtain ⟨c0, c1, c2, c3⟩ := cfAt HXd.out (b := Bc) (n := n) (s := s) (h := 0) (t := t) (e := 24) (by simp)
                go_region_held3 (fun w' => w'.cell? ⟨Bc, 0, none⟩ = some (.int .i64 n) ∧ w'.cell? ⟨Bc, 1, none⟩ = some (.int .i64 s) ∧ w'.cell? ⟨Bc, 2, none⟩ = some (.int .i64 0) ∧ w'.cell? ⟨Bc, 3, none⟩ = some (.int .u32 t) ∧ w'.cell? ⟨gl, i, none⟩ = some (.int .u32 li)) (go_keep) (first
                  | (go_at_call 16; (refine (next_p n s 0 t li l2 l3 _).mono ?_); rintro e w12 ⟨rfl, hb⟩; rw [HM.out]; (have HX2 := Lib.hid (HXd.out.on hb)); (have e8 := HLI.out _ _ HX2.out); (obtain ⟨z1, z2⟩ := ROWWH.out _ _ (WLEN.out _ _ HWR.out) HX2.out m hml0); (obtain ⟨c0, c1, c2, c3⟩ := cfAt HX2.out (b := Bc) (n := n) (s := s) (h := 0) (t := t) (e := 24) (by simp)); clear hb)
                  | (go_at_call 34; (refine (pk.word_any X t X0 X2 t0 t1 _).mono ?_); rintro e w13 ⟨rfl, rfl⟩; rw [HV.out]))
                have HX3 := Lib.hid (SETWH.out _ _ m V HX2.out)
                clear z1 z2 e8 c0 c1 c2 c3
                have e8 := HLI.out _ _ HX3.out
                obtain ⟨c0, c1, c2, c3⟩ := cfAt HX3.out (b := Bc) (n := n) (s := s) (h := 0) (t := t) (e := 24) (by simp)
                go_wp2_with fail
                have HX4 := Lib.hid HX3.out.drew
                clear e8 c0 c1 c2 c3
                have e8 := HLI.out _ _ HX4.out
                obtain ⟨c0, c1, c2, c3⟩ := cfAt HX4.out (b := Bc) (n := n) (s := s) (h := 0) (t := t) (e := 24) (by simp)
                go_region_held3 (fun w' => w'.cell? ⟨Bc, 0, none⟩ = some (.int .i64 n) ∧ w'.cell? ⟨Bc, 1, none⟩ = some (.int .i64 s) ∧ w'.cell? ⟨Bc, 2, none⟩ = some (.int .i64 0) ∧ w'.cell? ⟨Bc, 3, none⟩ = some (.int .u32 t) ∧ w'.cell? ⟨gl, i, none⟩ = some (.int .u32 li)) (go_keep) ((go_at_call 18; (refine (value_p n s 0 t li l2 l3 _).mono ?_); rintro e w15 ⟨rfl, hb⟩; rw [HMV.out]; (have HX5 := Lib.hid (HX4.out.on hb)); (have e8 := HLI.out _ _ HX5.out); (obtain ⟨z1, z2⟩ := ROWWH.out _ _ ((List.length_set ..).trans (WLEN.out _ _ HWR.out)) HX5.out m1 hml); (obtain ⟨c0, c1, c2, c3⟩ := cfAt HX5.out (b := Bc) (n := n) (s := s) (h := 0) (t := t) (e := 24) (by simp)); clear hb))
                have HX6 := Lib.hid (SETWH.out _ _ m1 (1000 + (i : Int)) HX5.out)
                clear z1 z2 e8 c0 c1 c2 c3
                go_wp2_with fail
                go_roundw
                case rel => exact ⟨i + 1, _, by go_num, by omega, HWR2.out, HX6.out⟩
                case measure => simp [intOf]; omega
              · have hj1 : ¬ (i : Int) + 1 < (L.length : Int) := by omega
                obtain rfl : X = 0 := HXZ.out hjl
                go_wp2_with fail
                have HXd := Lib.hid HX.out.drew
                have e8 := HLI.out _ _ HXd.out
                clear c0 c1 c2 c3
                obtain ⟨c0, c1, c2, c3⟩ := cfAt HXd.out (b := Bc) (n := n) (s := s) (h := 0) (t := t) (e := 24) (by simp)
                go_region_held3 (fun w' => w'.cell? ⟨Bc, 0, none⟩ = some (.int .i64 n) ∧ w'.cell? ⟨Bc, 1, none⟩ = some (.int .i64 s) ∧ w'.cell? ⟨Bc, 2, none⟩ = some (.int .i64 0) ∧ w'.cell? ⟨Bc, 3, none⟩ = some (.int .u32 t) ∧ w'.cell? ⟨gl, i, none⟩ = some (.int .u32 li)) (go_keep) (first
                  | (go_at_call 16; (refine (next_p n s 0 t li l2 l3 _).mono ?_); rintro e w12 ⟨rfl, hb⟩; rw [HM.out]; (have HX2 := Lib.hid (HXd.out.on hb)); (have e8 := HLI.out _ _ HX2.out); (obtain ⟨z1, z2⟩ := ROWWH.out _ _ (WLEN.out _ _ HWR.out) HX2.out m hml0); (obtain ⟨c0, c1, c2, c3⟩ := cfAt HX2.out (b := Bc) (n := n) (s := s) (h := 0) (t := t) (e := 24) (by simp)); clear hb)
                  | (go_at_call 34; (refine (pk.word_any 0 t (by decide) (by decide) t0 t1 _).mono ?_); rintro e w13 ⟨rfl, rfl⟩; rw [HV.out]))
                have HX3 := Lib.hid (SETWH.out _ _ m V HX2.out)
                clear z1 z2 e8 c0 c1 c2 c3
                have e8 := HLI.out _ _ HX3.out
                obtain ⟨c0, c1, c2, c3⟩ := cfAt HX3.out (b := Bc) (n := n) (s := s) (h := 0) (t := t) (e := 24) (by simp)
                go_wp2_with fail
                have HX4 := Lib.hid HX3.out.drew
                clear e8 c0 c1 c2 c3
                have e8 := HLI.out _ _ HX4.out
                obtain ⟨c0, c1, c2, c3⟩ := cfAt HX4.out (b := Bc) (n := n) (s := s) (h := 0) (t := t) (e := 24) (by simp)
                go_region_held3 (fun w' => w'.cell? ⟨Bc, 0, none⟩ = some (.int .i64 n) ∧ w'.cell? ⟨Bc, 1, none⟩ = some (.int .i64 s) ∧ w'.cell? ⟨Bc, 2, none⟩ = some (.int .i64 0) ∧ w'.cell? ⟨Bc, 3, none⟩ = some (.int .u32 t) ∧ w'.cell? ⟨gl, i, none⟩ = some (.int .u32 li)) (go_keep) ((go_at_call 18; (refine (value_p n s 0 t li l2 l3 _).mono ?_); rintro e w15 ⟨rfl, hb⟩; rw [HMV.out]; (have HX5 := Lib.hid (HX4.out.on hb)); (have e8 := HLI.out _ _ HX5.out); (obtain ⟨z1, z2⟩ := ROWWH.out _ _ ((List.length_set ..).trans (WLEN.out _ _ HWR.out)) HX5.out m1 hml); (obtain ⟨c0, c1, c2, c3⟩ := cfAt HX5.out (b := Bc) (n := n) (s := s) (h := 0) (t := t) (e := 24) (by simp)); clear hb))
                have HX6 := Lib.hid (SETWH.out _ _ m1 (1000 + (i : Int)) HX5.out)
                clear z1 z2 e8 c0 c1 c2 c3
                go_wp2_with fail
                go_roundw
                case rel => exact ⟨i + 1, _, by go_num, by omega, HWR2.out, HX6.out⟩
                case measure => simp [intOf]; omega
            · have hge : ¬ (i : Int) < (L.length : Int) := by omega
              have hWA : Wr ⟨n, s, 0, t⟩ L L.length ws := by
                have e : i = L.length := by omega
                have := HWR.out
                rwa [e] at this
              have HLEN := Lib.hid (WLEN.out _ _ hWA)
              have HINW : Hid (∀ (us : List Int) (wq : World), us.length = ws0.length → Hold (fun _ => False) w [row 22 1 (.slice (some ⟨gl, 0, none⟩) L.length cl) L.length (L.map (Value.int .u32)), row 43 1 (.slice (some ⟨g, 0, none⟩) ws0.length cw) ws0.length ((us).map (Value.int .u64)), blk Bc (Obj.cells #[.int .i64 n, .int .i64 s, .int .i64 0, .int .u32 t] 24)] wq → Ints wq .u64 (.slice (some ⟨g, 0, none⟩) ws0.length cw) us) := fun us wq hl hh => by
                have h1 := hh.rowIs (e := 43) (size := 1) (List.mem_cons_of_mem _ (List.mem_cons_self ..))
                rw [← hl] at h1 ⊢
                exact row_ints h1
              have HINL : Hid (∀ (us : List Int) (wq : World), Hold (fun _ => False) w [row 22 1 (.slice (some ⟨gl, 0, none⟩) L.length cl) L.length (L.map (Value.int .u32)), row 43 1 (.slice (some ⟨g, 0, none⟩) ws0.length cw) ws0.length ((us).map (Value.int .u64)), blk Bc (Obj.cells #[.int .i64 n, .int .i64 s, .int .i64 0, .int .u32 t] 24)] wq → Ints wq .u32 (.slice (some ⟨gl, 0, none⟩) L.length cl) L) := fun us wq hh =>
                row_ints (hh.rowIs (e := 22) (size := 1) (List.mem_cons_self ..))
              obtain ⟨x0, hx0⟩ : ∃ x0, nth L 0 = x0 := ⟨_, rfl⟩
              obtain ⟨xb0, xb1⟩ := HN.out.at_ h0
              dsimp only at xb1
              rw [hx0] at xb0 xb1
              obtain ⟨T, hT⟩ : ∃ T, IntKind.u32.wrap (t + 1) = T := ⟨_, rfl⟩
              have hTb : 0 ≤ T ∧ T ≤ 4294967295 := by rw [← hT, IntKind.wrap_u32]; omega
              obtain ⟨T0, T1⟩ := hTb
              obtain ⟨V0, hV0⟩ : ∃ V0, T * 4294967296 + x0 = V0 := ⟨_, rfl⟩
              have hV0b : 0 ≤ V0 ∧ V0 ≤ 18446744073709551615 ∧ V0 % 4294967296 = x0 := by omega
              obtain ⟨v00, v01, v02⟩ := hV0b
              have HV0 := Lib.hid hV0
              have hWB := hWA.head HN.out (Nat.le_refl _) v00 v01
              obtain ⟨us, hus⟩ : ∃ us, ws.set 0 V0 = us := ⟨_, rfl⟩
              rw [hus] at hWB
              have hus0 : nth us 0 = V0 := by rw [← hus]; exact nth_set_eq _ (by have := HLEN.out; omega)
              have HUL : Hid (us.length = ws0.length) := WLEN.out _ _ hWB
              have e6 : wr.cell? ⟨gl, 0, none⟩ = some (.int .u32 x0) := by rw [← hx0]; exact ROWLH.out _ _ HX.out 0 h0
              obtain ⟨z1, z2⟩ := ROWWH.out _ _ HLEN.out HX.out 0 hwl2
              have HX1 : Hid (Hold (fun _ => False) w [row 22 1 (.slice (some ⟨gl, 0, none⟩) L.length cl) L.length (L.map (Value.int .u32)), row 43 1 (.slice (some ⟨g, 0, none⟩) ws0.length cw) ws0.length ((us).map (Value.int .u64)), blk Bc (Obj.cells #[.int .i64 n, .int .i64 s, .int .i64 0, .int .u32 t] 24)] (wr.setCell ⟨g, 0, none⟩ (.int .u64 V0))) := by rw [← hus]; exact SETWH.out _ _ 0 V0 HX.out
              have HX0 := Lib.hid hx0
              have HWB := Lib.hid hWB
              have HU0 := Lib.hid hus0
              have hL0 : (0 : Int) < (L.length : Int) := by omega
              have x02 : 0 ≤ x0 := by omega
              have x03 : x0 ≤ 4294967295 := by omega
              obtain ⟨kk, hkk⟩ : ∃ kk : Nat, pickI a4 (L.length : Int) = kk := ⟨(pickI a4 (L.length : Int)).toNat, by have := pickI_bd a4 (L.length : Int) (by omega); omega⟩
              have hkb := pickI_bd a4 (L.length : Int) (by omega)
              rw [hkk] at hkb
              obtain ⟨kb0, kb1⟩ := hkb
              have hkl : kk < L.length := by omega
              have HKK := Lib.hid hkk
              have hLm : (L.length : Int) ≤ 9223372036854775807 := by omega
              obtain ⟨xk, hxk⟩ : ∃ xk, nth L kk = xk := ⟨_, rfl⟩
              obtain ⟨xk0, xk1⟩ := HN.out.at_ hkl
              dsimp only at xk1
              rw [hxk] at xk0 xk1
              have xk2 : 0 ≤ xk := by omega
              have xk3 : xk ≤ 4294967295 := by omega
              have HXK := Lib.hid hxk
              obtain ⟨V7, hV7⟩ : ∃ V7, 7 * 4294967296 + xk = V7 := ⟨_, rfl⟩
              have HV7 := Lib.hid hV7
              have v70 : 0 ≤ V7 := by omega
              have v71 : V7 ≤ 18446744073709551615 := by omega
              have HCH : Hid (chainL ⟨n, s, 0, t⟩ us V7 = some (L.drop kk)) := HWB.out.chain HN.out hkl (by rw [HXK.out]; omega)
              obtain ⟨VL, hVL1, hVL2, hVL3⟩ := HWB.out.stack HN.out h0 (by rw [HU0.out, HX0.out]; exact v02)
              have HVL1 := Lib.hid hVL1; have HVL2 := Lib.hid hVL2; have HVL3 := Lib.hid hVL3
              have HUF : Hid (Fit .u64 us) := HWB.out.fit
              have HU1 : Hid (us.length ≤ 1000000) := by have := HUL.out; unfold Hid; omega
              clear hWA hWB hus hus0 hx0 hV0 hkk hxk hV7 hVL1 hVL2 hVL3 v02
              go_wp2_with fail
              refine (pk.word_any x0 T x02 x03 T0 T1 _).mono ?_
              rintro e w12 ⟨rfl, rfl⟩
              rw [HV0.out]
              clear c0 c1 c2 c3 hT
              go_wp2_with fail
              refine (pick_any a4 (L.length : Int) g4 g4' hL0 hLm _).mono ?_
              rintro e w12 ⟨rfl, rfl⟩
              rw [HKK.out]
              have HX2 := Lib.hid HX1.out.drew
              clear z1 z2 e6
              obtain ⟨c0, c1, c2, c3⟩ := cfAt HX2.out (b := Bc) (n := n) (s := s) (h := 0) (t := t) (e := 24) (by simp)
              have e8 : ∀ wq, Hold (fun _ => False) w [row 22 1 (.slice (some ⟨gl, 0, none⟩) L.length cl) L.length (L.map (Value.int .u32)), row 43 1 (.slice (some ⟨g, 0, none⟩) ws0.length cw) ws0.length ((us).map (Value.int .u64)), blk Bc (Obj.cells #[.int .i64 n, .int .i64 s, .int .i64 0, .int .u32 t] 24)] wq → wq.cell? ⟨gl, kk, none⟩ = some (.int .u32 xk) := fun wq hh => by rw [← HXK.out]; exact ROWLH.out _ _ hh kk hkl
              have HE8 := Lib.hid e8
              clear e8
              have e9 := HE8.out _ HX2.out
              go_wp2_with fail
              go_region_held3 (fun w' => w'.cell? ⟨Bc, 0, none⟩ = some (.int .i64 n) ∧ w'.cell? ⟨Bc, 1, none⟩ = some (.int .i64 s) ∧ w'.cell? ⟨Bc, 2, none⟩ = some (.int .i64 0) ∧ w'.cell? ⟨Bc, 3, none⟩ = some (.int .u32 t) ∧ w'.cell? ⟨gl, kk, none⟩ = some (.int .u32 xk)) (go_keep) (first
                | (go_at_call 34; (refine (pk.word_any xk 7 xk2 xk3 (by decide) (by decide) _).mono ?_); rintro e w13 ⟨rfl, rfl⟩; rw [HV7.out])
                | (go_at_call 27; (refine (chain_any ⟨n, s, 0, t⟩ (HINW.out _ _ HUL.out HX2.out) HUF.out HU1.out V7 v70 v71).mono ?_); rintro e w14 ⟨xv, rfl, hxv, hb⟩; rw [HCH.out] at hxv ⊢; (have HX3 := Lib.hid (HX2.out.on hb)); (have HXV := Lib.hid hxv); (have e9 := HE8.out _ HX3.out); (obtain ⟨c0, c1, c2, c3⟩ := cfAt HX3.out (b := Bc) (n := n) (s := s) (h := 0) (t := t) (e := 24) (by simp)); clear hb hxv))
              have HXV3 : Hid (Ints w14 .u32 xv (L.drop kk)) := HXV.out
              clear e9
              try dsimp only [Option.isSome]
              go_wp2_with fail
              refine (stack_any ⟨n, s, 0, t⟩ (HINW.out _ _ HUL.out HX3.out) HUF.out HU1.out).mono ?_
              rintro e w16 ⟨sv, rfl, hsv, hb⟩
              rw [HVL1.out] at hsv ⊢
              have HX4 := Lib.hid (HX3.out.on hb)
              have HXV4 := Lib.hid (HXV3.out.below hb)
              have hS4 : Ints w16 .u64 sv VL := hsv
              obtain ⟨as_, cs_, rfl, hfs⟩ := form hS4
              rw [HVL2.out] at hfs ⊢
              have HFS := Lib.hid hfs
              clear hb hsv hS4 hfs c0 c1 c2 c3
              try dsimp only [Option.isSome]
              have HTL : Hid (Ints w16 .u32 (.slice (some ⟨gl, kk, none⟩) (L.length - kk) (cl - kk)) (L.drop kk)) := ints_drop (HINL.out _ _ HX4.out) (Nat.le_of_lt hkl) (fun h => by rw [Nat.zero_add])
              have hkc : (kk : Int) ≤ (cl : Int) := by omega
              have hkL : (kk : Int) ≤ (L.length : Int) := by omega
              have hsl : (L.drop kk).length ≤ 1000000 := by rw [List.length_drop]; omega
              have HSL := Lib.hid hsl
              clear hsl
              go_wp2_with fail
              refine (same32_any HXV4.out HTL.out HSL.out).mono ?_
              rintro e w17 ⟨rfl, hb⟩
              have HX5 := Lib.hid (HX4.out.on hb)
              have HK5 := Lib.hid hb
              clear hb
              go_wp2_with fail
              go_loopw [27] (fun jv wv => ∃ j : Nat, jv = .int .i64 j ∧ j ≤ L.length ∧ wv = w17) (fun jv _ => L.length - (intOf jv).toNat)
              case atStart => exact ⟨0, rfl, Nat.zero_le _, rfl⟩
              case round =>
                obtain ⟨j, rfl, hj, rfl⟩ := hrel
                have hj0 : (0 : Int) ≤ (j : Int) := by omega
                by_cases hjl : j < L.length
                · have hj1 : (j : Int) < (L.length : Int) := by omega
                  obtain ⟨_, _, gs, os_, rfl, hgs, hcs⟩ := HFS.out (by omega)
                  have e10 := (HK5.out.cell (p := ⟨gs, os_ + j, none⟩) hgs).trans (hcs j hjl)
                  rw [HVL3.out j hjl] at e10
                  have hD : (1000 : Int) + ((L.length - 1 - j : Nat) : Int) = 1000 + (L.length : Int) - 1 - (j : Int) := by omega
                  rw [hD] at e10
                  have hwa : IntKind.i64.wrap (1000 + (L.length : Int)) = 1000 + (L.length : Int) := IntWalk.i64_in _ (by omega)
                  have hwb : IntKind.i64.wrap (1000 + (L.length : Int) - 1) = 1000 + (L.length : Int) - 1 := IntWalk.i64_in _ (by omega)
                  have hwc : IntKind.i64.wrap (1000 + (L.length : Int) - 1 - (j : Int)) = 1000 + (L.length : Int) - 1 - (j : Int) := IntWalk.i64_in _ (by omega)
                  have hwd : IntKind.u64.wrap (1000 + (L.length : Int) - 1 - (j : Int)) = 1000 + (L.length : Int) - 1 - (j : Int) := by rw [IntKind.wrap_u64]; omega
                  clear hcs hgs hD
                  go_wp2_with fail
                  go_roundw
                  case rel => exact ⟨j + 1, by go_num, by omega, by first | rfl | trivial⟩
                  case measure => simp [intOf]; omega
                · have hge2 : ¬ (j : Int) < (L.length : Int) := by omega
                  obtain ⟨la, hla⟩ : ∃ la, L.length - 1 = la := ⟨_, rfl⟩
                  have hlaI : (L.length : Int) - 1 = (la : Int) := by omega
                  have hll : la < L.length := by omega
                  have hwl : IntKind.i64.wrap (la : Int) = (la : Int) := IntWalk.i64_in _ (by omega)
                  have hl0 : (0 : Int) ≤ (la : Int) := by omega
                  have hl1 : (la : Int) < (L.length : Int) := by omega
                  obtain ⟨li, hli⟩ : ∃ li, nth L la = li := ⟨_, rfl⟩
                  obtain ⟨li0, li1⟩ := HN.out.at_ hll
                  dsimp only at li1
                  rw [hli] at li0 li1
                  obtain ⟨m, hm⟩ : ∃ m : Nat, 2 * li = m := ⟨(2 * li).toNat, by omega⟩
                  have HM : Hid (nextP ⟨n, s, 0, t⟩ li = (m : Int)) := by rw [← hm]; simp [Hid, nextP, HOK.out, li0, li1]
                  have hml : m < ws0.length := by have := HNN.out; omega
                  have hmI0 : (0 : Int) ≤ (m : Int) := by omega
                  have hmI1 : (m : Int) < (ws0.length : Int) := by omega
                  have li2 : 0 ≤ li := by omega
                  have li3 : li ≤ 4294967295 := by omega
                  have hwx : IntKind.u64.wrap xk = xk := by rw [IntKind.wrap_u64]; omega
                  have HBK : Hid (chainL ⟨n, s, 0, t⟩ (us.set m xk) V0 = none) := by
                    have := HWB.out.back HN.out hkl (x := V0) (by rw [HX0.out, ← HV0.out]; omega)
                    have e1 : (2 * li).toNat = m := by omega
                    rw [hla, hli, e1, HXK.out] at this
                    exact this
                  have H20 : Hid (nth (us.set m xk) 0 = V0) := by
                    unfold Hid
                    rw [nth_set_ne _ (by omega)]
                    exact HU0.out
                  have HSK : Hid (stackL ⟨n, s, 0, t⟩ (us.set m xk) = none) := by
                    unfold Hid stackL
                    rw [H20.out, HBK.out]
                    rfl
                  have HF2 : Hid (Fit .u64 (us.set m xk)) := fit_set HUF.out m xk2 (by omega)
                  have HL2' : Hid ((us.set m xk).length = ws0.length) := by unfold Hid; rw [List.length_set]; exact HUL.out
                  have HL3 : Hid ((us.set m xk).length ≤ 1000000) := by unfold Hid; rw [List.length_set]; exact HU1.out
                  have HEL : ∀ wq, Hold (fun _ => False) w [row 22 1 (.slice (some ⟨gl, 0, none⟩) L.length cl) L.length (L.map (Value.int .u32)), row 43 1 (.slice (some ⟨g, 0, none⟩) ws0.length cw) ws0.length ((us).map (Value.int .u64)), blk Bc (Obj.cells #[.int .i64 n, .int .i64 s, .int .i64 0, .int .u32 t] 24)] wq → wq.cell? ⟨gl, la, none⟩ = some (.int .u32 li) := fun wq hh => by rw [← hli]; exact ROWLH.out _ _ hh la hll
                  have HEL := Lib.hid HEL
                  obtain ⟨c0, c1, c2, c3⟩ := cfAt HX5.out (b := Bc) (n := n) (s := s) (h := 0) (t := t) (e := 24) (by simp)
                  clear hla hli hm
                  go_wp2_with fail
                  clear c0 c1 c2 c3
                  have HX6 := Lib.hid HX5.out.drew
                  obtain ⟨c0, c1, c2, c3⟩ := cfAt HX6.out (b := Bc) (n := n) (s := s) (h := 0) (t := t) (e := 24) (by simp)
                  have e11 := HEL.out _ HX6.out
                  have e12 := HE8.out _ HX6.out
                  go_region_held3 (fun w' => w'.cell? ⟨Bc, 0, none⟩ = some (.int .i64 n) ∧ w'.cell? ⟨Bc, 1, none⟩ = some (.int .i64 s) ∧ w'.cell? ⟨Bc, 2, none⟩ = some (.int .i64 0) ∧ w'.cell? ⟨Bc, 3, none⟩ = some (.int .u32 t) ∧ w'.cell? ⟨gl, la, none⟩ = some (.int .u32 li) ∧ w'.cell? ⟨gl, kk, none⟩ = some (.int .u32 xk)) (go_keep) ((go_at_call 16; (refine (next_p n s 0 t li li2 li3 _).mono ?_); rintro e w20 ⟨rfl, hb⟩; rw [HM.out]; (have HX7 := Lib.hid (HX6.out.on hb)); (have e11 := HEL.out _ HX7.out); (have e12 := HE8.out _ HX7.out); (obtain ⟨z1, z2⟩ := ROWWH.out _ _ HUL.out HX7.out m hml); (obtain ⟨c0, c1, c2, c3⟩ := cfAt HX7.out (b := Bc) (n := n) (s := s) (h := 0) (t := t) (e := 24) (by simp)); clear hb))
                  have HX8 : Hid (Hold (fun _ => False) w [row 22 1 (.slice (some ⟨gl, 0, none⟩) L.length cl) L.length (L.map (Value.int .u32)), row 43 1 (.slice (some ⟨g, 0, none⟩) ws0.length cw) ws0.length ((us.set m xk).map (Value.int .u64)), blk Bc (Obj.cells #[.int .i64 n, .int .i64 s, .int .i64 0, .int .u32 t] 24)] (w20.setCell ⟨g, m, none⟩ (.int .u64 xk))) := SETWH.out _ _ m xk HX7.out
                  clear z1 z2 e11 e12 c0 c1 c2 c3
                  obtain ⟨c0, c1, c2, c3⟩ := cfAt HX8.out (b := Bc) (n := n) (s := s) (h := 0) (t := t) (e := 24) (by simp)
                  have z3 := (ROWWH.out _ _ HL2'.out HX8.out 0 hwl2).1
                  rw [H20.out] at z3
                  have hw0' : (0 : Int) < (ws0.length : Int) := by omega
                  go_wp2_with fail
                  have HX9 := Lib.hid HX8.out.drew
                  clear z3 c0 c1 c2 c3
                  obtain ⟨c0, c1, c2, c3⟩ := cfAt HX9.out (b := Bc) (n := n) (s := s) (h := 0) (t := t) (e := 24) (by simp)
                  have z3 := (ROWWH.out _ _ HL2'.out HX9.out 0 hwl2).1
                  rw [H20.out] at z3
                  go_region_held3 (fun w' => w'.cell? ⟨Bc, 0, none⟩ = some (.int .i64 n) ∧ w'.cell? ⟨Bc, 1, none⟩ = some (.int .i64 s) ∧ w'.cell? ⟨Bc, 2, none⟩ = some (.int .i64 0) ∧ w'.cell? ⟨Bc, 3, none⟩ = some (.int .u32 t) ∧ w'.cell? ⟨g, 0, none⟩ = some (.int .u64 V0)) (go_keep) ((go_at_call 27; (refine (chain_any ⟨n, s, 0, t⟩ (HINW.out _ _ HL2'.out HX9.out) HF2.out HL3.out V0 v00 v01).mono ?_); rintro e w22 ⟨yv, rfl, hyv, hb⟩; rw [HBK.out] at hyv ⊢; (have HXA := Lib.hid (HX9.out.on hb)); (have HYV := Lib.hid hyv); (have z3 := (ROWWH.out _ _ HL2'.out HXA.out 0 hwl2).1); rw [H20.out] at z3; (obtain ⟨c0, c1, c2, c3⟩ := cfAt HXA.out (b := Bc) (n := n) (s := s) (h := 0) (t := t) (e := 24) (by simp)); clear hb hyv))
                  have hY : Ints w22 .u32 yv [] := HYV.out
                  obtain ⟨ay, cy, rfl, _⟩ := form hY
                  clear hY z3
                  try dsimp only [Option.isSome]
                  go_wp2_with fail
                  refine (stack_any ⟨n, s, 0, t⟩ (HINW.out _ _ HL2'.out HXA.out) HF2.out HL3.out).mono ?_
                  rintro e w23 ⟨tv, rfl, htv, hb⟩
                  rw [HSK.out] at htv ⊢
                  have HXB := Lib.hid (HXA.out.on hb)
                  have hT2 : Ints w23 .u64 tv [] := htv
                  obtain ⟨at_, ct_, rfl, _⟩ := form hT2
                  clear hb htv hT2
                  try dsimp only [Option.isSome, List.length_nil]
                  go_wp2_with fail
                  go_ret
                  exact ⟨rfl, HXB.out.below⟩
        · have hnz : ((L.length : Int) == 0) = true := by rw [beq_iff_eq]; omega
          go_wp2_with fail
          go_ret
          exact ⟨rfl, HX.out.below⟩
theorem own : ownKnob Try.prog.godebug = none := by kernel_rfl
theorem laidOut : laidOutB Try.prog = true := by kernel_rfl
theorem cells_int : Try.prog.cellsOf 3 = 1 := by kernel_rfl
set_option maxRecDepth 100000 in
theorem lifted (os : Os) (started : os.Started) (H : Type) (enc : TypeId × Value → H) :
    ReturnsInHanded {} Try.checked os 7 .any (Rows.layoutListsSpec.pre6 enc Try.prog Try.f7 Rows.layoutListsRow.domain false) (Rows.layoutListsSpec.post enc Try.prog Try.f7 false true false false) := by
  refine returnsInHanded_of_change (C := Try.checked) own started (by kernel_rfl) Try.func7
    (ChangeSpec.witness6 (enc := enc) (C := Try.checked) false ⟨#[], #[.int .i64 0, .int .i64 0, .slice none 0 0, .int .u32 0, .int .i64 0], []⟩ 8 (by kernel_rfl) (by kernel_rfl) (by kernel_rfl) (by kernel_rfl)) ?_
  intro W base args ds gs before hval0 hW hcnd _
  have hval : ∀ (j : Nat) t v, Try.f7.params[j]? = some t → args[j]? = some v → Value.okWide Try.prog W .any base t v := hval0
  have hW' := hW
  obtain ⟨p, q, hA0, hV, rfl, hfz, hnd⟩ := hW
  have hA : DataW.TrodAll enc Try.prog W 0 (fun _ => true) true Try.f7.params.toList args.toList ds p := hA0
  rw [Try.params7] at hA hval
  obtain ⟨v0, vs0, d0, ds0, p0, q0, hargs, rfl, rfl, h0, r0⟩ := trodAll_cons hA
  obtain ⟨v1, vs1, d1, ds1, p1, q1, rfl, rfl, rfl, h1, r1⟩ := trodAll_cons r0
  obtain ⟨v2, vs2, d2, ds2, p2, q2, rfl, rfl, rfl, h2, r2⟩ := trodAll_cons r1
  obtain ⟨v3, vs3, d3, ds3, p3, q3, rfl, rfl, rfl, h3, r3⟩ := trodAll_cons r2
  obtain ⟨v4, vs4, d4, ds4, p4, q4, rfl, rfl, rfl, h4, r4⟩ := trodAll_cons r3
  obtain ⟨rfl, rfl, rfl⟩ := trodAll_nil r4
  obtain rfl : args = #[v0, v1, v2, v3, v4] := by cases args; simp_all
  obtain ⟨rfl, rfl⟩ := trodVars_none hV
  obtain ⟨a0, rfl, rfl, rfl, w0⟩ := open_int Try.underlying3 (hval 0 3 v0 rfl rfl) h0
  obtain ⟨a1, rfl, rfl, rfl, w1⟩ := open_int Try.underlying3 (hval 1 3 v1 rfl rfl) h1
  obtain ⟨a2, w2, z2⟩ := lift.open_row Try.underlying54 Try.underlying3 cells_int (okWide_slice Try.underlying54 (hval 2 54 v2 rfl rfl)) h2
  obtain ⟨a3, rfl, rfl, rfl, w3⟩ := open_int Try.underlying22 (hval 3 22 v3 rfl rfl) h3
  obtain ⟨a4, rfl, rfl, rfl, w4⟩ := open_int Try.underlying3 (hval 4 3 v4 rfl rfl) h4
  clear hA0 hval0
  refine (walk a0 a1 v2 a2 a3 a4 w0 w1 w3 w4 W w2 z2).mono fun e W' ⟨he, hb⟩ => ?_
  subst he
  exact ⟨_, rfl, lift.post_law (tb := 4) laidOut (by rw [Try.params7]; exact fun t ht => (of_decide_eq_true (by kernel_rfl) : ∀ t ∈ [3, 3, 54, 22, 3], Try.prog.readableRec t = true ∧ t < Try.prog.types.size) t ht) (by kernel_rfl) Try.underlying4 rfl hW' rfl hb⟩
theorem over : Rows.layoutListsRow.holds Try.pinned (OpenSpec.ofChange Rows.layoutListsSpec) :=
  OpenClaim.holds_of_wide 7 Try.f7 rfl rfl rfl rfl rfl rfl rfl ⟨rfl, rfl, rfl, rfl, rfl⟩ rfl rfl rfl rfl rfl (by kernel_rfl) Try.func7 (by kernel_rfl)
    (of_decide_eq_true (by kernel_rfl)) (by unfold Func.isWrapper; first | (rw [if_pos (by decide +kernel)]; kernel_rfl) | (rw [if_neg (by decide +kernel)]; exact ⟨rfl, rfl⟩))
    (fun os started H enc _ => lifted os started H enc)
theorem proved : Rows.LayoutListsSaid :=
  over
end Go.Proofs.Ytcacahokdnpboaa.layoutLists
