/- Package source: what each call does to a source, over this seat's program. -/
import Derived.Test.YthncogpkhaheeaaSrc
import Derived.Test.YthncogpkhaheeaaSrcL
import Derived.Test.YthncogpkhaheeaaHold
import Derived.Handy
import Derived.Deep.RegionHeld3
import Derived.Deep.RegionLaw
import Derived.Deep.QuietTactic
import Derived.BigQuiet
namespace Go.Proofs.Ythncogpkhaheeaa.src
open Go.ChangeShapes Go.WideShapes Go.ChangeAt Go.RowKit frame lift sep
set_option linter.unusedVariables false
theorem info64 : (Try.prog.info? 23).map (fun i => (i.zero, i.size, i.bytes)) = some (some (.int .u64 0), 1, 8) := by kernel_rfl
theorem info8 : (Try.prog.info? 5).map (fun i => (i.zero, i.size, i.bytes)) = some (some (.int .u8 0), 1, 1) := by kernel_rfl
/-- A source as it lies there: its time, all the draws that its row has, and how many of them were taken. -/
def raw (b : Nat) (now : Int) (all : List Int) (k : Nat) : Thing := ex fun v => star [blk b (.cells #[.int .u64 now, v, .int .i64 (k : Int)] 50 (0, 0)), row 5 1 v all.length (all.map (Value.int .u8))]
/-- A source: so many are taken that at least as many are left. -/
def src (b : Nat) (S : Sc) : Thing := ex fun (p : List Int × Nat) => fact (p.1.drop p.2 = S.ds ∧ p.2 ≤ S.ds.length) (raw b S.now p.1 p.2)
section
variable {F : Nat → Prop} {w : World} {b : Nat} {S : Sc} {L : List Thing} {W : World} {now : Int} {all : List Int} {k : Nat}
theorem raw_open (h : Hold F W (raw b now all k :: L) w) : ∃ v, Hold F W (blk b (.cells #[.int .u64 now, v, .int .i64 (k : Int)] 50 (0, 0)) :: row 5 1 v all.length (all.map (Value.int .u8)) :: L) w := by
  obtain ⟨v, hv⟩ := h.unex
  exact ⟨v, hv.unstar⟩
theorem raw_close {v : Value} (h : Hold F W (blk b (.cells #[.int .u64 now, v, .int .i64 (k : Int)] 50 (0, 0)) :: row 5 1 v all.length (all.map (Value.int .u8)) :: L) w) : Hold F W (raw b now all k :: L) w :=
  Hold.toex v (Hold.tostar (M := [blk b (.cells #[.int .u64 now, v, .int .i64 (k : Int)] 50 (0, 0)), row 5 1 v all.length (all.map (Value.int .u8))]) h)
theorem src_open (h : Hold F W (src b S :: L) w) : ∃ all k, all.drop k = S.ds ∧ k + S.ds.length = all.length ∧ k ≤ S.ds.length ∧ Hold F W (raw b S.now all k :: L) w := by
  obtain ⟨⟨all, k⟩, hv⟩ := h.unex
  obtain ⟨⟨h1, h2⟩, h3⟩ := hv.unfact
  dsimp only at h1 h2 h3
  refine ⟨all, k, h1, ?_, h2, h3⟩
  have := congrArg List.length h1
  rw [List.length_drop] at this
  omega
theorem src_close (h1 : all.drop k = S.ds) (h2 : k ≤ S.ds.length) (h : Hold F W (raw b S.now all k :: L) w) : Hold F W (src b S :: L) w :=
  Hold.toex (A := fun (p : List Int × Nat) => fact (p.1.drop p.2 = S.ds ∧ p.2 ≤ S.ds.length) (raw b S.now p.1 p.2)) (all, k) (Hold.tofact ⟨h1, h2⟩ h)
end
theorem mod_le {d n : Int} (h0 : 0 ≤ d) (hn : 0 < n) : d % n ≤ d := by
  by_cases h : d < n
  · rw [Int.emod_eq_of_lt h0 h]
    exact Int.le_refl _
  · have := Int.emod_lt_of_pos d hn
    omega
theorem dead_any (a d : Int) (ha : 0 ≤ a) (ha1 : a ≤ top) (hd : 0 ≤ d) (hd1 : d ≤ top) (w : World) :
    Calls Try.prog 21 #[.int .u64 a, .int .u64 d] w fun e w' => e = .returned (.int .u64 (dead a d)) ∧ w = w' := by
  unfold top at ha1 hd1
  by_cases h : a + d ≤ 18446744073709551615
  · have HD : Hid (dead a d = a + d) := by simp [Hid, dead, top, h]
    have h1 : (a + d) % 18446744073709551616 = a + d := by omega
    have h2 : (a + d) / 18446744073709551616 = 0 := by omega
    have HA := fun w => add64 a d ha hd h1 h2 w
    clear h1 h2
    go_enter Try.func21, Try.ntmps21
    go_wp2_with (simp only [HA])
    go_ret
    rw [HD.out]
    exact ⟨rfl, rfl⟩
  · have HD : Hid (dead a d = 18446744073709551615) := by simp [Hid, dead, top, h]
    have h1 : (a + d) % 18446744073709551616 = a + d - 18446744073709551616 := by omega
    have h2 : (a + d) / 18446744073709551616 = 1 := by omega
    have HA := fun w => add64 a d ha hd h1 h2 w
    clear h1 h2
    go_enter Try.func21, Try.ntmps21
    go_wp2_with (simp only [HA])
    go_ret
    rw [HD.out]
    exact ⟨rfl, rfl⟩
theorem tick_any {F : Nat → Prop} {w : World} {b : Nat} {S : Sc} (h : Apart [src b S] F w) (hS : ScOk S) (n : Int) (hn : 0 ≤ n) (hn1 : n ≤ top) :
    Calls Try.prog 13 #[.pointer (some ⟨b, 0, none⟩), .int .u64 n] w fun e w' => e = .returned (.tuple #[]) ∧ Hold F w [src b (tickS S n)] w' := by
  obtain ⟨all, k, hd, hlen, hle, hraw⟩ := src_open (Hold.start h)
  obtain ⟨v, hv⟩ := raw_open hraw
  have H := Lib.hid hv
  have HX : Hid (all.drop k = S.ds ∧ k ≤ S.ds.length) := ⟨hd, hle⟩
  have c0 := hv.cell (List.mem_cons_self ..) 0
  have f0 := hv.froz (List.mem_cons_self ..) 0
  have hn0 := hS.n0; have hnt := hS.n1
  simp at c0
  clear hv h hraw hd hlen hle
  go_enter Try.func13, Try.ntmps13
  go_wp2_with fail
  refine (dead_any S.now n hn0 hnt hn hn1 w).mono ?_
  rintro e w' ⟨rfl, rfl⟩
  go_wp2_with fail
  go_returns
  exact ⟨rfl, src_close (S := tickS S n) HX.out.1 HX.out.2 (raw_close (H.out.setBlk 0 _))⟩
theorem now_any {F : Nat → Prop} {w : World} {b : Nat} {S : Sc} (h : Apart [src b S] F w) :
    Calls Try.prog 19 #[.pointer (some ⟨b, 0, none⟩)] w fun e w' => e = .returned (.int .u64 S.now) ∧ w = w' := by
  obtain ⟨all, k, hd, hlen, hle, hraw⟩ := src_open (Hold.start h)
  obtain ⟨v, hv⟩ := raw_open hraw
  have c0 := hv.cell (List.mem_cons_self ..) 0
  simp at c0
  clear hv h hraw hd hlen hle
  go_enter Try.func19, Try.ntmps19
  go_wp2_with fail
  go_ret
  exact ⟨rfl, rfl⟩
theorem left_raw {F : Nat → Prop} {w : World} {b k m : Nat} {now : Int} {all : List Int} (h : Apart [raw b now all k] F w) (hk : k + m = all.length) (hl : all.length ≤ 4000000) :
    Calls Try.prog 20 #[.pointer (some ⟨b, 0, none⟩)] w fun e w' => e = .returned (.int .i64 m) ∧ ∃ n, w' = w.drewN n := by
  obtain ⟨v, hv⟩ := raw_open (Hold.start h)
  have c1 := hv.cell (List.mem_cons_self ..) 1
  have c2 := hv.cell (List.mem_cons_self ..) 2
  obtain ⟨F2, hr⟩ := hv.get _ (List.mem_cons_of_mem _ (List.mem_cons_self ..))
  obtain ⟨a, cap, rfl, hn, hm⟩ := hr.2.slice
  simp at c1 c2
  have hw : (all.length : Int) - (k : Int) = (m : Int) := by omega
  have hw2 : IntKind.i64.wrap (m : Int) = (m : Int) := IntWalk.i64_in _ (by omega)
  clear hv h hr
  go_enter Try.func20, Try.ntmps20
  go_wp2_with fail
  go_quiet (fail)
  go_wp2_with fail
  go_ret
  exact ⟨rfl, _, rfl⟩
theorem left_any {F : Nat → Prop} {w : World} {b : Nat} {S : Sc} (h : Apart [src b S] F w) (hl : S.ds.length ≤ 1000000) :
    Calls Try.prog 20 #[.pointer (some ⟨b, 0, none⟩)] w fun e w' => e = .returned (.int .i64 S.ds.length) ∧ ∃ n, w' = w.drewN n := by
  obtain ⟨all, k, hd, hlen, hle, hraw⟩ := src_open (Hold.start h)
  obtain ⟨F2, hr⟩ := hraw.get _ (List.mem_cons_self ..)
  exact left_raw (Apart.one hr) hlen (by omega)
theorem new_any (w : World) : Calls Try.prog 11 #[] w fun e w' => ∃ L', (∃ b, e = .returned (.pointer (some ⟨b, 0, none⟩)) ∧ L' = [src b ⟨0, []⟩]) ∧ Hold (fun _ => False) w L' w' := by
  have h := (((Hold.empty w).nilRow 5 1).newBlk (Obj.cells #[.int .u64 0, .slice none 0 0, .int .i64 0] 50))
  have H := Lib.hid (src_close (S := ⟨0, []⟩) (all := []) (k := 0) rfl (Nat.le_refl _) (raw_close h))
  clear h
  go_enter Try.func11, Try.ntmps11
  go_wp2_with fail
  go_ret
  exact ⟨_, ⟨_, rfl, rfl⟩, H.out⟩
theorem add_any {F : Nat → Prop} {w : World} {b : Nat} {S : Sc} (h : Apart [src b S] F w) (hl : S.ds.length ≤ 1000000) (d : Int) (hd : 0 ≤ d) (hd1 : d ≤ top) :
    Calls Try.prog 15 #[.pointer (some ⟨b, 0, none⟩), .int .u64 d] w fun e w' => e = .returned (.int .i64 (addE d)) ∧ Hold F w [src b (addS S d)] w' := by
  unfold top at hd1
  by_cases h63 : d ≤ 63
  · have HA : Hid (addE d = 0 ∧ addS S d = ⟨S.now, S.ds ++ [d]⟩) := by simp [Hid, addE, addS, h63]
    obtain ⟨all, k, hdr, hlen, hle, hraw⟩ := src_open (Hold.start h)
    obtain ⟨v, hv⟩ := raw_open hraw
    have H := Lib.hid hv
    have HX : Hid ((all ++ [d]).drop k = S.ds ++ [d] ∧ k ≤ (S.ds ++ [d]).length) := ⟨by rw [List.drop_append_of_le_length (by omega), hdr], by simp; omega⟩
    have hal : all.length ≤ 4000000 := by omega
    have c1 := hv.cell (List.mem_cons_self ..) 1
    simp at c1
    have hr := hv.rowIs (e := 5) (size := 1) (List.mem_cons_of_mem _ (List.mem_cons_self ..))
    have HR := Lib.hid hr
    clear hv h hr hraw hdr hlen hle hl
    obtain ⟨i, hi, hz0, hz1, hz2⟩ := info_parts info8
    have J1 := Lib.hid hi; have J2 := Lib.hid hz0; have J3 := Lib.hid hz1; have J4 := Lib.hid hz2; clear hi hz0 hz1 hz2
    have hd63 : ¬ 64 ≤ d := by omega
    have hw8 : IntKind.u8.wrap d = d := by rw [IntKind.wrap_u8]; omega
    go_enter Try.func15, Try.ntmps15
    go_wp2_with ((at_builtin; go_loud (refine wpList_append_lies _ rfl _ _ 48 rfl 0 5 i (.int .u8 0) 1 1 Try.underlying48 J1.out J2.out J3.out J4.out rfl (by decide) v all.length _ rfl (HR.out.alloc _) ⟨w.heap.size, 0, none⟩ 1 1 [.int .u8 d] rfl rfl ?c1 ?c2 (by decide) ?c3 ?c4 (by simp) (w.heap.size + 1) (by simp) ?_)))
    case c2 => rfl
    case c3 => simp only [maxLen]; omega
    case c4 => omega
    intro g cap w1 hown hgrow hat hlt
    have h2 := (H.out.alloc (Obj.cells #[.int .u8 d] 5)).swap.appended (by simpa using hown) hgrow (by simpa using hat) hlt
    have c1' := h2.cell (List.mem_cons_of_mem _ (List.mem_cons_self ..)) 1
    have f1' := h2.froz (List.mem_cons_of_mem _ (List.mem_cons_self ..)) 1
    have H2 := Lib.hid h2.swap
    simp at c1'
    clear hown hgrow hat h2
    go_wp2_with fail
    go_ret
    rw [HA.out.1, HA.out.2]
    refine ⟨rfl, src_close (S := ⟨S.now, S.ds ++ [d]⟩) HX.out.1 HX.out.2 (raw_close (all := all ++ [d]) (k := k) (v := .slice (some ⟨g, 0, none⟩) (all.length + 1) cap) ?_)⟩
    have h3 := H2.out.setBlk 1 (.slice (some ⟨g, 0, none⟩) (all.length + 1) cap)
    simpa using h3
  · have HA : Hid (addE d = 1 ∧ addS S d = S) := by simp [Hid, addE, addS, h63]
    have H := Lib.hid h
    have hd63 : 64 ≤ d := by omega
    go_enter Try.func15, Try.ntmps15
    go_wp2_with fail
    go_ret
    rw [HA.out.1, HA.out.2]
    exact ⟨rfl, Hold.start H.out⟩
end Go.Proofs.Ythncogpkhaheeaa.src
