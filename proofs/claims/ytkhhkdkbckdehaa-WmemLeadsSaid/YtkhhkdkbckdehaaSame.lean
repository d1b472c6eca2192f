/- SameWords, the notes that are told, and the law's 'same', over this seat's program. -/
import Derived.Test.YtkhhkdkbckdehaaMemC
import Derived.Test.YtkhhkdkbckdehaaFill
namespace Go.Proofs.Ytkhhkdkbckdehaa.wm
open Go.ChangeShapes Go.WideShapes Go.ChangeAt Go.RowKit frame lift sep rows
set_option linter.unusedVariables false

theorem same_words {w : World} {va vb : Value} {l : List Int} (ha : Ints w .u64 va l) (hb : Ints w .u64 vb l) (hl : l.length ≤ 1000000) :
    Calls Try.prog 13 #[va, vb] w fun e w' => e = .returned (.bool true) ∧ Below w.heap.size w w' := by
  rcases ha with ⟨rfl, a, cap, rfl⟩ | ⟨h0, b, off, cap, rfl, hc, hm, hbl, hcell⟩
  · rcases hb with ⟨_, a', cap', rfl⟩ | ⟨h0, _⟩
    · go_enter Try.func13, Try.ntmps13
      go_wp2_with fail
      go_rounds 1
      go_ret
      exact ⟨rfl, Below.refl _ _⟩
    · simp at h0
  · rcases hb with ⟨rfl, _⟩ | ⟨_, b', off', cap', rfl, hc', hm', hbl', hcell'⟩
    · simp at h0
    · have H1 := Lib.hid hcell; have H2 := Lib.hid hcell'
      clear hcell hcell'
      unfold maxLen at hm hm'
      go_enter Try.func13, Try.ntmps13
      go_wp2_with fail
      go_loopw [5] (fun i wr => ∃ k : Nat, k ≤ l.length ∧ i = .int .i64 k ∧ Below w.heap.size w wr) (fun i _ => l.length - (intOf i).toNat)
      case atStart => exact ⟨0, Nat.zero_le _, rfl, Below.refl _ _⟩
      case round =>
        obtain ⟨k, hk, rfl, hbr⟩ := hrel
        by_cases hlt : k < l.length
        · have hx := (hbr.cell (p := ⟨b, off + k, none⟩) hbl).trans (H1.out k hlt)
          have hy := (hbr.cell (p := ⟨b', off' + k, none⟩) hbl').trans (H2.out k hlt)
          have hi1 : (0 : Int) ≤ (k : Int) := by omega
          have hi2 : (k : Int) < (l.length : Int) := by omega
          go_wp2_with fail
          go_quiet (fail)
          go_wp2_with fail
          go_roundw
          case rel => exact ⟨k + 1, by omega, by go_num, hbr.trans ⟨rfl, rfl, rfl, Nat.le_refl _, fun _ _ => rfl⟩⟩
          case measure => simp [intOf]; omega
        · obtain rfl : k = l.length := by omega
          go_wp2_with fail
          go_ret
          exact ⟨rfl, hbr⟩

/-! ### What is told of a note -/
theorem told_any (n : Acc) (w : World) : Calls Try.prog 27 #[enc1 n] w fun e w' => e = .returned (.agg (enc5 n).toArray) ∧ Below w.heap.size w w' := by
  cases n with
  | ld a x =>
    unfold enc1 enc5
    have h0 : ∀ w, (Instr.typeAssert (.iface 71 (.agg #[.int .i64 a, .int .u64 x])) 20 71 true).run Try.prog w = .ok (.tuple #[.agg #[.int .i64 a, .int .u64 x], .bool true]) w := fun _ => by kernel_rfl
    go_enter Try.func27, Try.ntmps27
    go_wp2_with fail
    exact bodyPost_ret (v := .agg #[.int .u8 108, .int .i64 a, .int .u64 x, .int .u64 x, .bool true]) (by simp [results, Try.results27, go_sem]) rfl ⟨rfl, by go_grown⟩
  | st a o n =>
    unfold enc1 enc5
    have h0 : ∀ w, (Instr.typeAssert (.iface 72 (.agg #[.int .i64 a, .int .u64 o, .int .u64 n])) 20 71 true).run Try.prog w = .ok (.tuple #[.agg #[.int .i64 0, .int .u64 0], .bool false]) w := fun _ => by kernel_rfl
    have h1 : ∀ w, (Instr.typeAssert (.iface 72 (.agg #[.int .i64 a, .int .u64 o, .int .u64 n])) 20 72 true).run Try.prog w = .ok (.tuple #[.agg #[.int .i64 a, .int .u64 o, .int .u64 n], .bool true]) w := fun _ => by kernel_rfl
    go_enter Try.func27, Try.ntmps27
    go_wp2_with fail
    exact bodyPost_ret (v := .agg #[.int .u8 115, .int .i64 a, .int .u64 o, .int .u64 n, .bool true]) (by simp [results, Try.results27, go_sem]) rfl ⟨rfl, by go_grown⟩
  | sw a o n =>
    unfold enc1 enc5
    have h0 : ∀ w, (Instr.typeAssert (.iface 70 (.agg #[.int .i64 a, .int .u64 o, .int .u64 n])) 20 71 true).run Try.prog w = .ok (.tuple #[.agg #[.int .i64 0, .int .u64 0], .bool false]) w := fun _ => by kernel_rfl
    have h1 : ∀ w, (Instr.typeAssert (.iface 70 (.agg #[.int .i64 a, .int .u64 o, .int .u64 n])) 20 72 true).run Try.prog w = .ok (.tuple #[.agg #[.int .i64 0, .int .u64 0, .int .u64 0], .bool false]) w := fun _ => by kernel_rfl
    have h2 : ∀ w, (Instr.typeAssert (.iface 70 (.agg #[.int .i64 a, .int .u64 o, .int .u64 n])) 20 70 true).run Try.prog w = .ok (.tuple #[.agg #[.int .i64 a, .int .u64 o, .int .u64 n], .bool true]) w := fun _ => by kernel_rfl
    go_enter Try.func27, Try.ntmps27
    go_wp2_with fail
    exact bodyPost_ret (v := .agg #[.int .u8 99, .int .i64 a, .int .u64 o, .int .u64 n, .bool true]) (by simp [results, Try.results27, go_sem]) rfl ⟨rfl, by go_grown⟩
  | no a x =>
    unfold enc1 enc5
    have h0 : ∀ w, (Instr.typeAssert (.iface 68 (.agg #[.int .i64 a, .int .u64 x])) 20 71 true).run Try.prog w = .ok (.tuple #[.agg #[.int .i64 0, .int .u64 0], .bool false]) w := fun _ => by kernel_rfl
    have h1 : ∀ w, (Instr.typeAssert (.iface 68 (.agg #[.int .i64 a, .int .u64 x])) 20 72 true).run Try.prog w = .ok (.tuple #[.agg #[.int .i64 0, .int .u64 0, .int .u64 0], .bool false]) w := fun _ => by kernel_rfl
    have h2 : ∀ w, (Instr.typeAssert (.iface 68 (.agg #[.int .i64 a, .int .u64 x])) 20 70 true).run Try.prog w = .ok (.tuple #[.agg #[.int .i64 0, .int .u64 0, .int .u64 0], .bool false]) w := fun _ => by kernel_rfl
    have h3 : ∀ w, (Instr.typeAssert (.iface 68 (.agg #[.int .i64 a, .int .u64 x])) 20 68 true).run Try.prog w = .ok (.tuple #[.agg #[.int .i64 a, .int .u64 x], .bool true]) w := fun _ => by kernel_rfl
    go_enter Try.func27, Try.ntmps27
    go_wp2_with fail
    exact bodyPost_ret (v := .agg #[.int .u8 99, .int .i64 a, .int .u64 x, .int .u64 x, .bool false]) (by simp [results, Try.results27, go_sem]) rfl ⟨rfl, by go_grown⟩

/-- A slice of accesses (five cells each) that can be read. -/
def Accs (w : World) (v : Value) (l : List Acc) : Prop := ∃ a cap, v = .slice a l.length cap ∧ l.length ≤ cap ∧ cap ≤ maxLen ∧ (0 < l.length → ∃ g o, a = some ⟨g, o, none⟩ ∧ g < w.heap.size ∧ ∀ j, j < l.length * 5 → w.cell? ⟨g, o + j, none⟩ = (l.flatMap enc5)[j]?)
def z47 : List Value := [.int .u8 0, .int .i64 0, .int .u64 0, .int .u64 0, .bool false]
theorem info47 : (Try.prog.info? 47).map (fun i => (i.zero, i.size, i.bytes)) = some (some (.agg z47.toArray), 5, 40) := by kernel_rfl
theorem row_whole5 {w : World} {base : Nat} {e : TypeId} {g n s : Nat} {xs : List Value} (h : w.ownsRow base e s (.slice (some ⟨g, 0, none⟩) n n) n xs) : w.heap[g]? = some (.cells xs.toArray e (0, 0)) := by
  obtain ⟨h1, ⟨h2, _⟩ | ⟨g', cap, cur, hv, _, hg, _, _, hs, ht⟩⟩ := h
  · simp at h2
  · simp at hv
    obtain ⟨rfl, rfl⟩ := hv
    rw [hg, ← ht, List.take_of_length_le (by simp [hs])]
theorem drewN_below {B : Nat} {w u : World} (h : Below B u w) (n : Nat) : Below B u (w.drewN n) := h.trans ⟨rfl, rfl, rfl, Nat.le_refl _, fun _ _ => rfl⟩
/-- What Since hands back: the accesses, in a block of its own. -/
def SinceNew (w : World) (l : List Acc) (e : Ending) (w' : World) : Prop := ∃ v, e = .returned v ∧ Accs w' v l ∧ Below w.heap.size w w' ∧ ∀ g, v.ownBlock = some g → w.heap.size ≤ g
def SincePost (w : World) (l : List Acc) (e : Ending) (w' : World) : Prop := ∃ v, e = .returned v ∧ Accs w' v l ∧ Below w.heap.size w w'
theorem since_low {w : World} {F : Nat → Prop} {b : Nat} {v1 v2 : Value} {l1 : List Value} {l : List Acc} (h : TwoV w F b 62 33 20 1 v1 v2 l1 l.length (l.map enc1)) (hl : l.length ≤ 1000000) (n : Int) (hn0 : n ≤ 0) (h0 : 0 < l.length) :
    Calls Try.prog 18 #[.pointer (some ⟨b, 0, none⟩), .int .i64 n] w (SinceNew w l) := by
    have hc1 := h.c1
    obtain ⟨g, cap, rfl, hg, hlt, hcap, hmax, hcell, hfr⟩ := h.r2.at_ h0
    have HC : Hid (∀ (j : Nat) (hj : j < l.length), w.cell? ⟨g, j, none⟩ = some (enc1 l[j])) := fun j hj => by
      rw [hcell j (by omega)]
      simp [hj]
    clear hcell hfr h
    unfold maxLen at hmax
    have e1 : (if n < 0 then (0 : Int) else n) = 0 := by split <;> omega
    obtain ⟨i, hi, hz0, hz1, hz2⟩ := info_parts info47
    have J1 := Lib.hid hi; have J2 := Lib.hid hz0; have J3 := Lib.hid hz1; have J4 := Lib.hid hz2; clear hi hz0 hz1 hz2
    go_enter Try.func18, Try.ntmps18
    go_wp2_with fail
    go_quiet (fail)
    go_wp2_with (at_make; refine wpList_make_full _ rfl _ _ 43 rfl 0 47 i _ 5 Try.underlying43 J1.out J2.out J3.out _ _ _ _ l.length rfl rfl rfl rfl ?m1 ?m2 (Nat.zero_le _) ?_)
    case m1 => rw [J4.out]; omega
    case m2 => simp only [maxLen]; omega
    intro w1 hown hgrow
    obtain ⟨M, hMe⟩ : ∃ M, M = (madeCells z47.toArray (l.length * 5)).toList := ⟨_, rfl⟩
    have hM : M.length = l.length * 5 := by rw [hMe]; simp [madeCells]
    have hW := row_whole5 hown
    rw [← hMe] at hW
    have hlt1 : w.heap.size < w1.heap.size := lt_of_block hW
    have HW := Lib.hid hW
    have hB1 : Below w.heap.size w w1 := (drewN_below (Below.refl _ _) nq).trans ⟨hgrow.os, hgrow.tape, hgrow.output, hgrow.size, fun k hk => hgrow.block k hk (by simp)⟩
    have HB1 := Lib.hid hB1
    have HM := Lib.hid hM
    clear hown hgrow hW hM hMe hB1
    go_wp2_with fail
    go_loopw [27] (fun i wr => ∃ k : Nat, k ≤ l.length ∧ i = .int .i64 k ∧ Below w.heap.size w wr ∧ Hid (wr.heap[w.heap.size]? = some (.cells (fill enc5 5 M l k).toArray 47 (0, 0)))) (fun i _ => l.length - (intOf i).toNat)
    case atStart => exact ⟨0, Nat.zero_le _, rfl, HB1.out, by rw [fill_zero]; exact HW.out⟩
    case round =>
      obtain ⟨k, hk, rfl, hbr, HR⟩ := hrel
      by_cases hlt2 : k < l.length
      · obtain ⟨t, v, hx⟩ := enc1_iface l[k]
        have hck : wr.cell? ⟨g, k, none⟩ = some (.iface t v) := by
          rw [hbr.cell (p := ⟨g, k, none⟩) hlt, HC.out k hlt2, hx]
        have hT := told_any l[k] wr
        rw [hx] at hT
        have HT := Lib.hid hT
        clear hT
        have HX := Lib.hid hx
        clear hx
        have hi1 : (0 : Int) ≤ (k : Int) := by omega
        have hi2 : (k : Int) < (l.length : Int) := by omega
        go_wp2_with fail
        refine HT.out.mono ?_
        rintro e w2 ⟨rfl, hb2⟩
        have HR2 : Hid (w2.heap[w.heap.size]? = some (.cells (fill enc5 5 M l k).toArray 47 (0, 0))) := (hb2.block _ (lt_of_block HR.out)).trans HR.out
        have hb3 : Below w.heap.size w w2 := hbr.trans (hb2.mono hbr.size)
        have HB3 := Lib.hid hb3
        clear hb2 hb3 hbr
        have hks : k * 5 + 5 ≤ l.length * 5 := by omega
        have HT2 : Hid (w2.there w.heap.size (k * 5) (enc5 l[k]).toArray.size) := there_of HR2.out (k * 5) _ (by rw [fill_len enc5_len _ _ hk HM.out, List.size_toArray, enc5_len]; exact hks)
        have HI : Hid ((Try.prog.info? 47).map (·.size) = some (enc5 l[k]).toArray.size) := by
          show _ = _
          rw [List.size_toArray, enc5_len]
          kernel_rfl
        go_wp2_with (with_reducible refine wpList_store_mid rfl 47 (.tmp 36) (.tmp 35) rfl w.heap.size (k * 5) (enc5 l[k]).toArray rfl rfl HT2.out HI.out (all_oneCell_toArray (enc5_one _)) ?_)
        go_roundw
        case rel => exact ⟨k + 1, by omega, by go_num, below_setCells' (Nat.le_refl _) _ _ HB3.out, (heap_setCells _ _ _ _ HR2.out (by rw [fill_len enc5_len _ _ hk HM.out, enc5_len]; exact hks)).trans (by rw [fill_next enc5_len _ _ hlt2 HM.out])⟩
        case measure => simp [intOf]; omega
      · obtain rfl : k = l.length := by omega
        go_wp2_with fail
        go_ret
        have hf := HR.out
        rw [fill_all _ HM.out] at hf
        exact ⟨_, rfl, ⟨_, _, rfl, Nat.le_refl _, by simp only [maxLen]; omega, fun _ => ⟨_, 0, rfl, lt_of_block hf, fun j hj => by rw [Nat.zero_add, cell_of_row _ _ j _ _ _ hf]; simp⟩⟩, hbr, fun g hg => by simp [Value.ownBlock] at hg; omega⟩
theorem since_mid {w : World} {F : Nat → Prop} {b : Nat} {v1 v2 : Value} {l1 : List Value} {l : List Acc} (h : TwoV w F b 62 33 20 1 v1 v2 l1 l.length (l.map enc1)) (hl0 : l.length ≤ 1000000) (k0 : Nat) (hn0 : 0 < k0) (hn1 : k0 < l.length) :
    Calls Try.prog 18 #[.pointer (some ⟨b, 0, none⟩), .int .i64 k0] w (SinceNew w (l.drop k0)) := by
    have h0 : 0 < l.length := by omega
    have hc1 := h.c1
    obtain ⟨g, cap, rfl, hg, hlt, hcap, hmax, hcell, hfr⟩ := h.r2.at_ h0
    obtain ⟨l', hl'⟩ : ∃ l', l' = l.drop k0 := ⟨_, rfl⟩
    have hlen : l.length - k0 = l'.length := by rw [hl', List.length_drop]
    have hl : l'.length ≤ 1000000 := by omega
    have HC : Hid (∀ (j : Nat) (hj : j < l'.length), w.cell? ⟨g, k0 + j, none⟩ = some (enc1 l'[j])) := fun j hj => by
      have hj2 : k0 + j < l.length := by omega
      rw [hcell (k0 + j) (by omega)]
      subst hl'
      simp [hj2]
    rw [← hl']
    clear hcell hfr h hl'
    unfold maxLen at hmax
    have hi3 : (k0 : Int) ≤ (l.length : Int) := by omega
    have hi4 : (k0 : Int) < (l.length : Int) := by omega
    have hi5 : (k0 : Int) ≤ (cap : Int) := by omega
    have hi6 : ¬ cap = k0 := by omega
    have hi7 : ¬ cap - k0 = 0 := by omega
    obtain ⟨i, hi, hz0, hz1, hz2⟩ := info_parts info47
    have J1 := Lib.hid hi; have J2 := Lib.hid hz0; have J3 := Lib.hid hz1; have J4 := Lib.hid hz2; clear hi hz0 hz1 hz2
    go_enter Try.func18, Try.ntmps18
    go_wp2_with fail
    go_quiet (fail)
    go_wp2_with (at_make; refine wpList_make_full _ rfl _ _ 43 rfl 0 47 i _ 5 Try.underlying43 J1.out J2.out J3.out _ _ _ _ l'.length rfl rfl rfl rfl ?m1 ?m2 (Nat.zero_le _) ?_)
    case m1 => rw [J4.out]; omega
    case m2 => simp only [maxLen]; omega
    intro w1 hown hgrow
    obtain ⟨M, hMe⟩ : ∃ M, M = (madeCells z47.toArray (l'.length * 5)).toList := ⟨_, rfl⟩
    have hM : M.length = l'.length * 5 := by rw [hMe]; simp [madeCells]
    have hW := row_whole5 hown
    rw [← hMe] at hW
    have hlt1 : w.heap.size < w1.heap.size := lt_of_block hW
    have HW := Lib.hid hW
    have hB1 : Below w.heap.size w w1 := (drewN_below (Below.refl _ _) nq).trans ⟨hgrow.os, hgrow.tape, hgrow.output, hgrow.size, fun k hk => hgrow.block k hk (by simp)⟩
    have HB1 := Lib.hid hB1
    have HM := Lib.hid hM
    clear hown hgrow hW hM hMe hB1
    go_wp2_with fail
    go_loopw [27] (fun i wr => ∃ k : Nat, k ≤ l'.length ∧ i = .int .i64 k ∧ Below w.heap.size w wr ∧ Hid (wr.heap[w.heap.size]? = some (.cells (fill enc5 5 M l' k).toArray 47 (0, 0)))) (fun i _ => l'.length - (intOf i).toNat)
    case atStart => exact ⟨0, Nat.zero_le _, rfl, HB1.out, by rw [fill_zero]; exact HW.out⟩
    case round =>
      obtain ⟨k, hk, rfl, hbr, HR⟩ := hrel
      by_cases hlt2 : k < l'.length
      · obtain ⟨t, v, hx⟩ := enc1_iface l'[k]
        have hck : wr.cell? ⟨g, k0 + k, none⟩ = some (.iface t v) := by
          rw [hbr.cell (p := ⟨g, k0 + k, none⟩) hlt, HC.out k hlt2, hx]
        have hT := told_any l'[k] wr
        rw [hx] at hT
        have HT := Lib.hid hT
        clear hT
        have HX := Lib.hid hx
        clear hx
        have hi1 : (0 : Int) ≤ (k : Int) := by omega
        have hi2 : (k : Int) < (l'.length : Int) := by omega
        go_wp2_with fail
        refine HT.out.mono ?_
        rintro e w2 ⟨rfl, hb2⟩
        have HR2 : Hid (w2.heap[w.heap.size]? = some (.cells (fill enc5 5 M l' k).toArray 47 (0, 0))) := (hb2.block _ (lt_of_block HR.out)).trans HR.out
        have hb3 : Below w.heap.size w w2 := hbr.trans (hb2.mono hbr.size)
        have HB3 := Lib.hid hb3
        clear hb2 hb3 hbr
        have hks : k * 5 + 5 ≤ l'.length * 5 := by omega
        have HT2 : Hid (w2.there w.heap.size (k * 5) (enc5 l'[k]).toArray.size) := there_of HR2.out (k * 5) _ (by rw [fill_len enc5_len _ _ hk HM.out, List.size_toArray, enc5_len]; exact hks)
        have HI : Hid ((Try.prog.info? 47).map (·.size) = some (enc5 l'[k]).toArray.size) := by
          show _ = _
          rw [List.size_toArray, enc5_len]
          kernel_rfl
        go_wp2_with (with_reducible refine wpList_store_mid rfl 47 (.tmp 36) (.tmp 35) rfl w.heap.size (k * 5) (enc5 l'[k]).toArray rfl rfl HT2.out HI.out (all_oneCell_toArray (enc5_one _)) ?_)
        go_roundw
        case rel => exact ⟨k + 1, by omega, by go_num, below_setCells' (Nat.le_refl _) _ _ HB3.out, (heap_setCells _ _ _ _ HR2.out (by rw [fill_len enc5_len _ _ hk HM.out, enc5_len]; exact hks)).trans (by rw [fill_next enc5_len _ _ hlt2 HM.out])⟩
        case measure => simp [intOf]; omega
      · obtain rfl : k = l'.length := by omega
        go_wp2_with fail
        go_ret
        have hf := HR.out
        rw [fill_all _ HM.out] at hf
        exact ⟨_, rfl, ⟨_, _, rfl, Nat.le_refl _, by simp only [maxLen]; omega, fun _ => ⟨_, 0, rfl, lt_of_block hf, fun j hj => by rw [Nat.zero_add, cell_of_row _ _ j _ _ _ hf]; simp⟩⟩, hbr, fun g hg => by simp [Value.ownBlock] at hg; omega⟩

theorem since_end {w : World} {F : Nat → Prop} {b : Nat} {v1 v2 : Value} {l1 : List Value} {l : List Acc} (h : TwoV w F b 62 33 20 1 v1 v2 l1 l.length (l.map enc1)) (hl0 : l.length ≤ 1000000) (n : Int) (h0 : 0 < l.length) (hn1 : l.length ≤ n) :
    Calls Try.prog 18 #[.pointer (some ⟨b, 0, none⟩), .int .i64 n] w (SinceNew w []) := by
    have hc1 := h.c1
    obtain ⟨g, cap, rfl, hg, hlt, hcap, hmax, hcell, hfr⟩ := h.r2.at_ h0
    clear hcell hfr h
    unfold maxLen at hmax
    have e1 : (if n < 0 then (0 : Int) else n) = n := by split <;> omega
    have e2 : (if (l.length : Int) < n then (l.length : Int) else n) = l.length := by split <;> omega
    obtain ⟨i, hi, hz0, hz1, hz2⟩ := info_parts info47
    have J1 := Lib.hid hi; have J2 := Lib.hid hz0; have J3 := Lib.hid hz1; have J4 := Lib.hid hz2; clear hi hz0 hz1 hz2
    by_cases hcl : cap = l.length
    · subst hcl
      go_enter Try.func18, Try.ntmps18
      go_wp2_with fail
      go_quiet (fail)
      go_wp2_with (at_make; go_loud (refine wpList_make_full _ rfl _ _ 43 rfl 0 47 i _ 5 Try.underlying43 J1.out J2.out J3.out _ _ _ _ 0 rfl rfl rfl rfl ?m1 ?m2 (Nat.zero_le _) ?_))
      case m1 => rw [J4.out]; omega
      case m2 => simp only [maxLen]; omega
      intro w1 hown hgrow
      have hB1 : Below w.heap.size w w1 := (drewN_below (Below.refl _ _) nq).trans ⟨hgrow.os, hgrow.tape, hgrow.output, hgrow.size, fun k hk => hgrow.block k hk (by simp)⟩
      have HB1 := Lib.hid hB1
      clear hown hgrow hB1
      go_wp2_with fail
      go_rounds 1
      go_ret
      exact ⟨_, rfl, ⟨_, _, rfl, Nat.le_refl _, by simp [maxLen], fun h => by simp at h⟩, HB1.out, fun g hg => by simp [Value.ownBlock] at hg; omega⟩
    · have hi6 : ¬ cap - l.length = 0 := by omega
      go_enter Try.func18, Try.ntmps18
      go_wp2_with fail
      go_quiet (fail)
      go_wp2_with (at_make; go_loud (refine wpList_make_full _ rfl _ _ 43 rfl 0 47 i _ 5 Try.underlying43 J1.out J2.out J3.out _ _ _ _ 0 rfl rfl rfl rfl ?m1 ?m2 (Nat.zero_le _) ?_))
      case m1 => rw [J4.out]; omega
      case m2 => simp only [maxLen]; omega
      intro w1 hown hgrow
      have hB1 : Below w.heap.size w w1 := (drewN_below (Below.refl _ _) nq).trans ⟨hgrow.os, hgrow.tape, hgrow.output, hgrow.size, fun k hk => hgrow.block k hk (by simp)⟩
      have HB1 := Lib.hid hB1
      clear hown hgrow hB1
      go_wp2_with fail
      go_rounds 1
      go_ret
      exact ⟨_, rfl, ⟨_, _, rfl, Nat.le_refl _, by simp [maxLen], fun h => by simp at h⟩, HB1.out, fun g hg => by simp [Value.ownBlock] at hg; omega⟩
theorem since_nil {w : World} {F : Nat → Prop} {b : Nat} {v1 v2 : Value} {l1 : List Value} (h : TwoV w F b 62 33 20 1 v1 v2 l1 0 []) (n : Int) :
    Calls Try.prog 18 #[.pointer (some ⟨b, 0, none⟩), .int .i64 n] w (SinceNew w []) := by
    have hc1 := h.c1
    have hv : v2 = .slice none 0 0 ∨ ∃ g cap, v2 = .slice (some ⟨g, 0, none⟩) 0 cap ∧ cap ≤ maxLen := by
      rcases h.r2.1.2 with ⟨rfl, _⟩ | ⟨g, cap, cur, rfl, _, _, _, hm, _⟩
      · exact .inl rfl
      · exact .inr ⟨g, cap, rfl, hm⟩
    clear h
    obtain ⟨i, hi, hz0, hz1, hz2⟩ := info_parts info47
    have J1 := Lib.hid hi; have J2 := Lib.hid hz0; have J3 := Lib.hid hz1; have J4 := Lib.hid hz2; clear hi hz0 hz1 hz2
    by_cases hn : n < 0
    · have e1 : (if n < 0 then (0 : Int) else n) = 0 := by split <;> omega
      rcases hv with rfl | ⟨g, cap, rfl, hmax⟩
      · skip
        go_enter Try.func18, Try.ntmps18
        go_wp2_with fail
        go_quiet (fail)
        go_wp2_with (at_make; refine wpList_make_full _ rfl _ _ 43 rfl 0 47 i _ 5 Try.underlying43 J1.out J2.out J3.out _ _ _ _ 0 rfl rfl rfl rfl ?m1 ?m2 (Nat.zero_le _) ?_)
        case m1 => rw [J4.out]; omega
        case m2 => simp only [maxLen]; omega
        intro w1 hown hgrow
        have hB1 : Below w.heap.size w w1 := (drewN_below (Below.refl _ _) nq).trans ⟨hgrow.os, hgrow.tape, hgrow.output, hgrow.size, fun k hk => hgrow.block k hk (by simp)⟩
        have HB1 := Lib.hid hB1
        clear hown hgrow hB1
        go_wp2_with fail
        go_rounds 1
        go_ret
        exact ⟨_, rfl, ⟨_, _, rfl, Nat.le_refl _, by simp [maxLen], fun h => by simp at h⟩, HB1.out, fun g hg => by simp [Value.ownBlock] at hg; omega⟩
      · unfold maxLen at hmax
        by_cases hc : cap = 0
        · subst hc
          go_enter Try.func18, Try.ntmps18
          go_wp2_with fail
          go_quiet (fail)
          go_wp2_with (at_make; refine wpList_make_full _ rfl _ _ 43 rfl 0 47 i _ 5 Try.underlying43 J1.out J2.out J3.out _ _ _ _ 0 rfl rfl rfl rfl ?m1 ?m2 (Nat.zero_le _) ?_)
          case m1 => rw [J4.out]; omega
          case m2 => simp only [maxLen]; omega
          intro w1 hown hgrow
          have hB1 : Below w.heap.size w w1 := (drewN_below (Below.refl _ _) nq).trans ⟨hgrow.os, hgrow.tape, hgrow.output, hgrow.size, fun k hk => hgrow.block k hk (by simp)⟩
          have HB1 := Lib.hid hB1
          clear hown hgrow hB1
          go_wp2_with fail
          go_rounds 1
          go_ret
          exact ⟨_, rfl, ⟨_, _, rfl, Nat.le_refl _, by simp [maxLen], fun h => by simp at h⟩, HB1.out, fun g hg => by simp [Value.ownBlock] at hg; omega⟩
        · skip
          go_enter Try.func18, Try.ntmps18
          go_wp2_with fail
          go_quiet (fail)
          go_wp2_with (at_make; refine wpList_make_full _ rfl _ _ 43 rfl 0 47 i _ 5 Try.underlying43 J1.out J2.out J3.out _ _ _ _ 0 rfl rfl rfl rfl ?m1 ?m2 (Nat.zero_le _) ?_)
          case m1 => rw [J4.out]; omega
          case m2 => simp only [maxLen]; omega
          intro w1 hown hgrow
          have hB1 : Below w.heap.size w w1 := (drewN_below (Below.refl _ _) nq).trans ⟨hgrow.os, hgrow.tape, hgrow.output, hgrow.size, fun k hk => hgrow.block k hk (by simp)⟩
          have HB1 := Lib.hid hB1
          clear hown hgrow hB1
          go_wp2_with fail
          go_rounds 1
          go_ret
          exact ⟨_, rfl, ⟨_, _, rfl, Nat.le_refl _, by simp [maxLen], fun h => by simp at h⟩, HB1.out, fun g hg => by simp [Value.ownBlock] at hg; omega⟩
    · have e1 : (if n < 0 then (0 : Int) else n) = n := by split <;> omega
      have e2 : (if (0 : Int) < n then (0 : Int) else n) = 0 := by split <;> omega
      rcases hv with rfl | ⟨g, cap, rfl, hmax⟩
      · skip
        go_enter Try.func18, Try.ntmps18
        go_wp2_with fail
        go_quiet (fail)
        go_wp2_with (at_make; refine wpList_make_full _ rfl _ _ 43 rfl 0 47 i _ 5 Try.underlying43 J1.out J2.out J3.out _ _ _ _ 0 rfl rfl rfl rfl ?m1 ?m2 (Nat.zero_le _) ?_)
        case m1 => rw [J4.out]; omega
        case m2 => simp only [maxLen]; omega
        intro w1 hown hgrow
        have hB1 : Below w.heap.size w w1 := (drewN_below (Below.refl _ _) nq).trans ⟨hgrow.os, hgrow.tape, hgrow.output, hgrow.size, fun k hk => hgrow.block k hk (by simp)⟩
        have HB1 := Lib.hid hB1
        clear hown hgrow hB1
        go_wp2_with fail
        go_rounds 1
        go_ret
        exact ⟨_, rfl, ⟨_, _, rfl, Nat.le_refl _, by simp [maxLen], fun h => by simp at h⟩, HB1.out, fun g hg => by simp [Value.ownBlock] at hg; omega⟩
      · unfold maxLen at hmax
        by_cases hc : cap = 0
        · subst hc
          go_enter Try.func18, Try.ntmps18
          go_wp2_with fail
          go_quiet (fail)
          go_wp2_with (at_make; refine wpList_make_full _ rfl _ _ 43 rfl 0 47 i _ 5 Try.underlying43 J1.out J2.out J3.out _ _ _ _ 0 rfl rfl rfl rfl ?m1 ?m2 (Nat.zero_le _) ?_)
          case m1 => rw [J4.out]; omega
          case m2 => simp only [maxLen]; omega
          intro w1 hown hgrow
          have hB1 : Below w.heap.size w w1 := (drewN_below (Below.refl _ _) nq).trans ⟨hgrow.os, hgrow.tape, hgrow.output, hgrow.size, fun k hk => hgrow.block k hk (by simp)⟩
          have HB1 := Lib.hid hB1
          clear hown hgrow hB1
          go_wp2_with fail
          go_rounds 1
          go_ret
          exact ⟨_, rfl, ⟨_, _, rfl, Nat.le_refl _, by simp [maxLen], fun h => by simp at h⟩, HB1.out, fun g hg => by simp [Value.ownBlock] at hg; omega⟩
        · skip
          go_enter Try.func18, Try.ntmps18
          go_wp2_with fail
          go_quiet (fail)
          go_wp2_with (at_make; refine wpList_make_full _ rfl _ _ 43 rfl 0 47 i _ 5 Try.underlying43 J1.out J2.out J3.out _ _ _ _ 0 rfl rfl rfl rfl ?m1 ?m2 (Nat.zero_le _) ?_)
          case m1 => rw [J4.out]; omega
          case m2 => simp only [maxLen]; omega
          intro w1 hown hgrow
          have hB1 : Below w.heap.size w w1 := (drewN_below (Below.refl _ _) nq).trans ⟨hgrow.os, hgrow.tape, hgrow.output, hgrow.size, fun k hk => hgrow.block k hk (by simp)⟩
          have HB1 := Lib.hid hB1
          clear hown hgrow hB1
          go_wp2_with fail
          go_rounds 1
          go_ret
          exact ⟨_, rfl, ⟨_, _, rfl, Nat.le_refl _, by simp [maxLen], fun h => by simp at h⟩, HB1.out, fun g hg => by simp [Value.ownBlock] at hg; omega⟩
section
variable {W w : World} {L : List Thing} {b c : Nat} {S : St}
theorem since_new (h : Here W L w) (hm : mem b S ∈ L) (hl : S.ns.length ≤ 1000000) (n : Int) :
    Calls Try.prog 18 #[.pointer (some ⟨b, 0, none⟩), .int .i64 n] w (SinceNew w (S.ns.drop n.toNat)) := by
  obtain ⟨F, v1, v2, h⟩ := mem_here h hm
  by_cases h0 : 0 < S.ns.length
  · by_cases h1 : n ≤ 0
    · rw [show n.toNat = 0 by omega]
      exact since_low h hl n h1 h0
    · by_cases h2 : S.ns.length ≤ n
      · rw [List.drop_eq_nil_of_le (by omega)]
        exact since_end h hl n h0 h2
      · obtain ⟨k, rfl⟩ : ∃ k : Nat, n = k := ⟨n.toNat, by omega⟩
        exact since_mid h hl k (by omega) (by omega)
  · have e : S.ns = [] := List.eq_nil_of_length_eq_zero (by omega)
    rw [e] at h ⊢
    rw [List.drop_nil]
    exact since_nil h n
theorem since_any (h : Here W L w) (hm : mem b S ∈ L) (hl : S.ns.length ≤ 1000000) (n : Int) :
    Calls Try.prog 18 #[.pointer (some ⟨b, 0, none⟩), .int .i64 n] w (SincePost w (S.ns.drop n.toNat)) :=
  (since_new h hm hl n).mono fun e w' ⟨v, he, ha, hb, _⟩ => ⟨v, he, ha, hb⟩
theorem enc5_form (n : Acc) : ∃ a b c d e, enc5 n = [.int .u8 a, .int .i64 b, .int .u64 c, .int .u64 d, .bool e] := by cases n <;> exact ⟨_, _, _, _, _, rfl⟩
theorem flat_at {α : Type} {enc : α → List Value} {s : Nat} (he : ∀ a, (enc a).length = s) (l : List α) (k f : Nat) (hk : k < l.length) (hf : f < s) : (l.flatMap enc)[k * s + f]? = (enc l[k])[f]? := by
  induction l generalizing k with
  | nil => simp at hk
  | cons a l ih =>
    rw [List.flatMap_cons]
    cases k with
    | zero =>
      rw [Nat.zero_mul, Nat.zero_add, List.getElem?_append_left (by rw [he]; exact hf)]
      rfl
    | succ k =>
      rw [List.getElem?_append_right (by rw [he, Nat.succ_mul]; omega), he, show (k + 1) * s + f - s = k * s + f from by rw [Nat.succ_mul]; omega]
      exact ih k (by simpa using hk)
theorem accs_at {v : Value} {g o : Nat} {l : List Acc} (hc : ∀ j, j < l.length * 5 → w.cell? ⟨g, o + j, none⟩ = (l.flatMap enc5)[j]?) (k : Nat) (hk : k < l.length) {x0 x1 x2 x3 x4 : Value} (hx : enc5 l[k] = [x0, x1, x2, x3, x4]) :
    w.cell? ⟨g, o + k * 5, none⟩ = some x0 ∧ w.cell? ⟨g, o + k * 5 + 1, none⟩ = some x1 ∧ w.cell? ⟨g, o + k * 5 + 2, none⟩ = some x2 ∧ w.cell? ⟨g, o + k * 5 + 3, none⟩ = some x3 ∧ w.cell? ⟨g, o + k * 5 + 4, none⟩ = some x4 := by
  have h (f : Nat) (hf : f < 5) : w.cell? ⟨g, o + k * 5 + f, none⟩ = [x0, x1, x2, x3, x4][f]? := by
    rw [Nat.add_assoc, hc _ (by omega), flat_at enc5_len l k f hk hf, hx]
  exact ⟨h 0 (by decide), h 1 (by decide), h 2 (by decide), h 3 (by decide), h 4 (by decide)⟩
set_option maxHeartbeats 2000000 in
theorem same_any {va vb : Value} {l : List Acc} (ha : Accs w va l) (hb : Accs w vb l) (hl : l.length ≤ 1000000) :
    Calls Try.prog 17 #[va, vb] w fun e w' => e = .returned (.bool true) ∧ Below w.heap.size w w' := by
  obtain ⟨a, ca, rfl, hna, hma, hca⟩ := ha
  obtain ⟨b, cb, rfl, hnb, hmb, hcb⟩ := hb
  have HA := Lib.hid hca; have HB := Lib.hid hcb
  clear hca hcb
  unfold maxLen at hma hmb
  go_enter Try.func17, Try.ntmps17
  go_wp2_with fail
  go_loopw [5] (fun i wr => ∃ k : Nat, k ≤ l.length ∧ i = .int .i64 k ∧ Below w.heap.size w wr) (fun i _ => l.length - (intOf i).toNat)
  case atStart => exact ⟨0, Nat.zero_le _, rfl, Below.refl _ _⟩
  case round =>
    obtain ⟨k, hk, rfl, hbr⟩ := hrel
    by_cases hlt : k < l.length
    · obtain ⟨ga, oa, rfl, hga, hcA⟩ := HA.out (by omega)
      obtain ⟨gb, ob, rfl, hgb, hcB⟩ := HB.out (by omega)
      obtain ⟨x0, x1, x2, x3, x4, hx⟩ := enc5_form l[k]
      obtain ⟨p0, p1, p2, p3, p4⟩ := accs_at (v := undef) hcA k hlt hx
      obtain ⟨q0, q1, q2, q3, q4⟩ := accs_at (v := undef) hcB k hlt hx
      have ta : ∀ j, wr.cell? ⟨ga, j, none⟩ = w.cell? ⟨ga, j, none⟩ := fun j => hbr.cell (p := ⟨ga, j, none⟩) hga
      have tb : ∀ j, wr.cell? ⟨gb, j, none⟩ = w.cell? ⟨gb, j, none⟩ := fun j => hbr.cell (p := ⟨gb, j, none⟩) hgb
      rw [← ta] at p0 p1 p2 p3 p4
      rw [← tb] at q0 q1 q2 q3 q4
      clear hcA hcB hx ta tb
      have hi1 : (0 : Int) ≤ (k : Int) := by omega
      have hi2 : (k : Int) < (l.length : Int) := by omega
      go_wp2_with fail
      go_quiet (fail)
      go_wp2_with fail
      go_roundw
      case rel => exact ⟨k + 1, by omega, by go_num, hbr.trans ⟨rfl, rfl, rfl, Nat.le_refl _, fun _ _ => rfl⟩⟩
      case measure => simp [intOf]; omega
    · obtain rfl : k = l.length := by omega
      go_wp2_with fail
      go_ret
      exact ⟨rfl, hbr⟩
end
end Go.Proofs.Ytkhhkdkbckdehaa.wm
