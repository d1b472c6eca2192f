/- Lists compared; ops as the document's own answer has them; over this seat's program. -/
import Derived.Test.YtjmbjlijkohkfaaLifO
namespace Go.Proofs.Ytjmbjlijkohkfaa.lf
open Go.ChangeShapes Go.WideShapes Go.ChangeAt Go.RowKit frame lift sep own join
set_option linter.unusedVariables false
theorem below_drewN {B : Nat} {u w : World} (h : Below B u w) (n : Nat) : Below B u (w.drewN n) := h.trans ⟨rfl, rfl, rfl, Nat.le_refl _, fun _ _ => rfl⟩
theorem eq_of_nth {a b : List Int} (hl : a.length = b.length) (h : ∀ j, j < a.length → nth a j = nth b j) : a = b := by
  apply List.ext_getElem hl
  intro i h1 h2
  have := h i h1
  simpa [nth, List.getD, h1, h2] using this
set_option maxHeartbeats 4000000 in
theorem same_any {w : World} {va vb : Value} {a b : List Int} (ha : Ints w .u64 va a) (hb : Ints w .u64 vb b) (hl : a.length ≤ 1000000) (hl2 : b.length ≤ 1000000) :
    Calls Try.prog 16 #[va, vb] w fun e w' => e = .returned (.bool (decide (a = b))) ∧ Below w.heap.size w w' := by
  obtain ⟨aa, ca, rfl, hfa⟩ := form ha
  obtain ⟨ab, cb, rfl, hfb⟩ := form hb
  have HFA := Lib.hid hfa; have HFB := Lib.hid hfb
  clear ha hb hfa hfb
  by_cases hn : a.length = b.length
  · have hn1 : ((a.length : Int) != (b.length : Int)) = false := by rw [bne_eq_false_iff_eq]; omega
    have hnI : (a.length : Int) = (b.length : Int) := by omega
    have HNE := Lib.hid hn
    clear hn
    go_enter Try.func16, Try.ntmps16
    go_wp2_with fail
    go_loopw [5] (fun i wr => ∃ k : Nat, k ≤ a.length ∧ i = .int .i64 k ∧ Hid (∀ j, j < k → nth a j = nth b j) ∧ Hid (Below w.heap.size w wr)) (fun i _ => a.length - (intOf i).toNat)
    case atStart => exact ⟨0, Nat.zero_le _, rfl, fun j hj => by omega, Below.refl _ _⟩
    case round =>
      obtain ⟨k, hk, rfl, HE, HB⟩ := hrel
      by_cases hlt : k < a.length
      · have hltb : k < b.length := by have := HNE.out; omega
        obtain ⟨h1, h2, ba, oa, rfl, hba, hca⟩ := HFA.out (by omega)
        obtain ⟨h3, h4, bb, ob, rfl, hbb, hcb⟩ := HFB.out (by omega)
        have e1 := (HB.out.cell (p := ⟨ba, oa + k, none⟩) hba).trans (hca k hlt)
        have e2 := (HB.out.cell (p := ⟨bb, ob + k, none⟩) hbb).trans (hcb k hltb)
        obtain ⟨x, hx⟩ : ∃ x, nth a k = x := ⟨_, rfl⟩
        obtain ⟨y, hy⟩ : ∃ y, nth b k = y := ⟨_, rfl⟩
        rw [hx] at e1
        rw [hy] at e2
        have hi1 : (0 : Int) ≤ (k : Int) := by omega
        have hi2 : (k : Int) < (a.length : Int) := by omega
        have hi3 : (k : Int) < (b.length : Int) := by omega
        unfold maxLen at h2 h4
        clear hca hcb
        by_cases hxy : x = y
        · have HE2 : Hid (∀ j, j < k + 1 → nth a j = nth b j) := fun j hj => by
            by_cases h : j = k
            · rw [h, hx, hy, hxy]
            · exact HE.out j (by omega)
          have hxy' : (x != y) = false := by simpa using hxy
          clear hx hy hxy
          go_wp2_with fail
          go_quiet (fail)
          go_wp2_with fail
          go_roundw
          case rel => exact ⟨k + 1, by omega, by go_num, HE2.out, below_drewN HB.out _⟩
          case measure => simp [intOf]; omega
        · have HF : Hid (decide (a = b) = false) := by
            refine decide_eq_false fun h => hxy ?_
            rw [← hx, ← hy, h]
          have hxy' : (x != y) = true := by simpa using hxy
          clear hx hy hxy
          go_wp2_with fail
          go_quiet (fail)
          go_wp2_with fail
          go_ret
          rw [HF.out]
          exact ⟨rfl, below_drewN HB.out _⟩
      · have HT : Hid (decide (a = b) = true) := decide_eq_true (eq_of_nth HNE.out fun j hj => HE.out j (by omega))
        go_wp2_with fail
        go_ret
        rw [HT.out]
        exact ⟨rfl, HB.out⟩
  · have hn1 : ((a.length : Int) != (b.length : Int)) = true := by rw [bne_iff_ne]; omega
    have HF : Hid (decide (a = b) = false) := decide_eq_false fun h => hn (by rw [h])
    clear hn
    go_enter Try.func16, Try.ntmps16
    go_wp2_with fail
    go_ret
    rw [HF.out]
    exact ⟨rfl, Below.refl _ _⟩
def zO : List Value := [.bool false, .int .u64 0, .int .i64 0]
theorem infoO : (Try.prog.info? 34).map (fun i => (i.zero, i.size, i.bytes)) = some (some (.agg zO.toArray), 3, 24) := by kernel_rfl
theorem encO_flat_at (l : List Ans) (i f : Nat) (hi : i < l.length) (hf : f < 3) : (l.flatMap encO)[i * 3 + f]? = (encO l[i])[f]? := by
  induction l generalizing i with
  | nil => simp at hi
  | cons o l ih =>
    rw [List.flatMap_cons]
    cases i with
    | zero =>
      rw [List.getElem?_append_left (by simp [encO]; omega)]
      simp
    | succ i =>
      rw [List.getElem?_append_right (by simp [encO]; omega)]
      have : (i + 1) * 3 + f - (encO o).length = i * 3 + f := by simp [encO]; omega
      rw [this, ih i (by simpa using hi)]
      simp
theorem ops_of_row {w : World} {B : Nat} {v : Value} {l : List Ans} {e : TypeId} (h : w.ownsRow B e 3 v l.length (l.flatMap encO)) : Ops w v l := by
  rcases h.2 with ⟨rfl, h2⟩ | ⟨g, cap, cur, rfl, hg, hh, hn, hc, hs, ht⟩
  · exact ⟨none, 0, by rw [h2], fun h0 => by omega⟩
  · refine ⟨_, cap, rfl, fun h0 => ⟨hn, hc, g, 0, rfl, (Array.getElem?_eq_some_iff.1 hh).1, fun i hi => ?_⟩⟩
    have c (f : Nat) (hf : f < 3) : w.cell? ⟨g, i * 3 + f, none⟩ = (encO l[i])[f]? := by
      have := h.cellAt (g := g) (i * 3 + f) (by have := Nat.mul_le_mul_right 3 (show i + 1 ≤ l.length by omega); omega)
      rw [this, encO_flat_at l i f hi hf]
    simp only [Nat.zero_add]
    exact ⟨c 0 (by decide), c 1 (by decide), c 2 (by decide)⟩
set_option maxHeartbeats 8000000 in
theorem as_any {w : World} {v : Value} {l : List Ans} (h : Ops w v l) (hl : l.length ≤ 1000000) :
    Calls Try.prog 15 #[v] w fun e w' => ∃ t, e = .returned t ∧ Ops w' t l ∧ Below w.heap.size w w' := by
  have HS := Lib.hid h
  obtain ⟨a, cap, rfl, _⟩ := h
  obtain ⟨i0, hi, hz0, hz1, hz2⟩ := info_parts infoO
  have J1 := Lib.hid hi; have J2 := Lib.hid hz0; have J3 := Lib.hid hz1; have J4 := Lib.hid hz2; clear hi hz0 hz1 hz2
  go_enter Try.func15, Try.ntmps15
  go_wp2_with fail
  go_loopw [3, 4] (fun nv i wr => ∃ (k : Nat) (vv : Value), nv = vv ∧ k ≤ l.length ∧ i = .int .i64 k ∧ Hid (wr.ownsRow w.heap.size 34 3 vv k ((l.take k).flatMap encO)) ∧ Hid (Below w.heap.size w wr)) (fun _ i _ => l.length - (intOf i).toNat)
  case atStart => exact ⟨0, _, rfl, Nat.zero_le _, rfl, World.ownsRow_nil w _ _ 3, Below.refl _ _⟩
  case round =>
    obtain ⟨k, vv, hvv, hk, rfl, HO, HB⟩ := hrel
    have hv2 := hvv.symm
    clear hvv
    subst hv2
    by_cases hlt : k < l.length
    · obtain ⟨g, off, rfl, hgl, x0, x1, x2⟩ := HS.out.at_ HB.out k hlt
      have hgr : g < wr.heap.size := Nat.lt_of_lt_of_le hgl HB.out.size
      have HX0 := Lib.hid x0; have HX1 := Lib.hid x1; have HX2 := Lib.hid x2
      have hi1 : (0 : Int) ≤ (k : Int) := by omega
      have hi2 : (k : Int) < (l.length : Int) := by omega
      obtain ⟨o, hoo⟩ : ∃ o, l[k] = o := ⟨_, rfl⟩
      rw [hoo] at x0 x1 x2 HX0 HX1 HX2
      have HN : Hid ((l.take (k + 1)).flatMap encO = (l.take k).flatMap encO ++ encO o) := by
        rw [← hoo]
        unfold Hid
        rw [List.take_succ_eq_append_getElem hlt, List.flatMap_append]
        simp
      have hb1 : Below w.heap.size w (wr.drew.alloc (.cells #[.bool o.push, .int .u64 o.v, .int .i64 o.st] 34 (0, 0))) := HB.out.drew.alloc HB.out.size _
      have hb2 : Below wr.heap.size wr (wr.drew.alloc (.cells #[.bool o.push, .int .u64 o.v, .int .i64 o.st] 34 (0, 0))) := (Below.refl wr.heap.size wr).drew.alloc (Nat.le_refl _) _
      have HB1 := Lib.hid hb1
      have hro : (wr.drew.alloc (.cells #[.bool o.push, .int .u64 o.v, .int .i64 o.st] 34 (0, 0))).ownsRow w.heap.size 34 3 vv k ((l.take k).flatMap encO) := HO.out.alloc _
      have HRO := Lib.hid hro
      have hrd : Reads (wr.drew.alloc (.cells #[.bool o.push, .int .u64 o.v, .int .i64 o.st] 34 (0, 0))) (.slice (some ⟨wr.heap.size, 0, none⟩) 1 1) 1 3 (encO o) := by
        refine ⟨rfl, fun u hu => ?_, _, 1, rfl, fun _ => ⟨_, rfl, fun j u hj => ?_⟩⟩
        · simp [encO] at hu
          rcases hu with rfl | rfl | rfl <;> rfl
        · rw [add_plain, Nat.zero_add]
          have := cell_of_row (wr.drew.alloc (.cells #[.bool o.push, .int .u64 o.v, .int .i64 o.st] 34 (0, 0))) wr.heap.size j _ _ _ (heap_alloc_new wr.drew _)
          rw [this]
          simpa [encO] using hj
      have HRD := Lib.hid hrd
      have hq1 : k + 1 ≤ 1099511627776 := by omega
      have HQ1 := Lib.hid hq1
      have HQ2 := Lib.hid hb1.size
      have HLT : Hid (∀ g, vv.ownBlock = some g → w.heap.size ≤ g) := fun g hg => (World.ownsRow.lt HO.out g hg).1
      clear hoo hb1 hb2 hro hrd hq1
      go_wp2_with fail
      go_region_held3 (fun w' => w'.cell? ⟨g, off + k * 3, none⟩ = some (.bool o.push) ∧ w'.cell? ⟨g, off + k * 3 + 1, none⟩ = some (.int .u64 o.v) ∧ w'.cell? ⟨g, off + k * 3 + 2, none⟩ = some (.int .i64 o.st)) (go_keep) (((refine step_join _ rfl _ _ 35 rfl w.heap.size 34 (.agg zO.toArray) 3 24 Try.underlying35 infoO rfl (by decide) _ k _ rfl HRO.out _ 1 (encO o) rfl HRD.out HQ1.out (by decide) HQ2.out ?_); intro v6 w6 hown6 hgrow6 _; (have hb6 : Below w.heap.size w w6 := HB1.out.grown hgrow6 HQ2.out HLT.out); (have q0 := (hb6.cell (p := ⟨g, off + k * 3, none⟩) hgl).trans ((HB.out.cell (p := ⟨g, off + k * 3, none⟩) hgl).symm.trans HX0.out)); (have q1 := (hb6.cell (p := ⟨g, off + k * 3 + 1, none⟩) hgl).trans ((HB.out.cell (p := ⟨g, off + k * 3 + 1, none⟩) hgl).symm.trans HX1.out)); (have q2 := (hb6.cell (p := ⟨g, off + k * 3 + 2, none⟩) hgl).trans ((HB.out.cell (p := ⟨g, off + k * 3 + 2, none⟩) hgl).symm.trans HX2.out)); (have HO6 := Lib.hid hown6); (have HB6 := Lib.hid hb6); clear hown6 hgrow6 hb6))
      go_wp2_with fail
      go_roundw
      case rel => exact ⟨k + 1, v6, rfl, by omega, by go_num, by rw [HN.out]; exact HO6.out, HB6.out⟩
      case measure => simp [intOf]; omega
    · obtain rfl : k = l.length := by omega
      have hro : wr.ownsRow w.heap.size 34 3 vv l.length (l.flatMap encO) := by
        have := HO.out
        rwa [List.take_length] at this
      have HR := Lib.hid (ops_of_row hro)
      clear hro
      go_wp2_with fail
      go_ret
      exact ⟨_, rfl, HR.out, HB.out⟩
end Go.Proofs.Ytjmbjlijkohkfaa.lf
