/- Contracts of package hatstandref3, on: the arguments of an entry, over this seat's program. -/
import Derived.Test.YtolampkhohahlaaDoorGlyphN
import Derived.Test.YtolampkhohahlaaDoorOwn
namespace Go.Proofs.YtolampkhohahlaaDoor.g3
open Go.ChangeShapes Go.WideShapes Go.ChangeAt Go.RowKit frame lift gl own
set_option linter.unusedVariables false
/-- What 'args' hands back. -/
def ArgsPost (w : World) (L : Bs) (e : Ending) (w' : World) : Prop :=
  Below w.heap.size w w' ∧ ((args L = none ∧ e = .returned (.tuple #[.slice none 0 0, .bool false])) ∨ ∃ l v, args L = some l ∧ e = .returned (.tuple #[v, .bool true]) ∧ Own w' w.heap.size 47 .u64 v l)
def ARel (w : World) (s : ByteArray) (f k : Nat) (v : Value) (wr : World) : Prop := ∃ out : List Int, out.length ≤ f ∧ Own wr w.heap.size 47 .u64 v out ∧ Below w.heap.size w wr ∧
  ((k ≤ s.size ∧ argsLoop [] [] (bytes s) = argsLoop out (((bytes s).take k).drop f) ((bytes s).drop k)) ∨ (k = s.size + 1 ∧ argsLoop [] [] (bytes s) = some out))
set_option maxHeartbeats 2000000 in
theorem args_any {s : ByteArray} (hs : s.size ≤ 1000000) (w : World) : Calls Tryd.prog 29 #[.string s] w (ArgsPost w (bytes s)) := by
  have hl := bytes_len s
  have hmx : s.size ≤ maxLen := by unfold maxLen; omega
  by_cases h0 : s.size = 0
  · have hl0 : bytes s = [] := List.eq_nil_of_length_eq_zero (by omega)
    have HA : Hid (args (bytes s) = some []) := by unfold Hid; rw [hl0]; rfl
    have hne : (!s.toList.isEmpty) = false := by
      have e : s.toList = [] := by
        rw [ByteArray.toList_eq]
        exact List.eq_nil_of_length_eq_zero (by simpa using h0)
      simp [e]
    have hi : (0 : Int) ≤ (s.size : Int) := by omega
    clear hl hl0 h0
    go_enter Tryd.func29, Tryd.ntmps29
    go_wp2_with fail
    refine wp_loop_rounds 1 ?_
    rw [rounds_succ]
    go_wp2_with fail
    go_ret2
    exact ⟨Below.refl _ _, .inr ⟨[], _, HA.out, rfl, own_nil _ _ _ _⟩⟩
  · have HE : Hid (args (bytes s) = argsLoop [] [] (bytes s)) := by
      unfold Hid args
      rw [if_neg]
      intro h
      have := congrArg List.length h
      rw [hl, List.length_nil] at this
      omega
    have hne : (!s.toList.isEmpty) = true := by
      have e : s.toList ≠ [] := fun e => by
        rw [ByteArray.toList_eq] at e
        have := congrArg List.length e
        simp at this
        exact h0 (by rw [this]; rfl)
      simpa using e
    have HL := Lib.hid hl; have HM := Lib.hid hmx
    clear hl hmx
    go_enter Tryd.func29, Tryd.ntmps29
    go_wp2_with fail
    go_loopw [4, 5, 6] (fun v f i wr => ∃ (k f' : Nat), k ≤ s.size + 1 ∧ f' ≤ k ∧ i = .int .i64 k ∧ f = .int .i64 f' ∧ ARel w s f' k v wr) (fun _ _ i _ => s.size + 1 - (intOf i).toNat)
    case atStart => exact ⟨0, 0, Nat.zero_le _, Nat.le_refl _, rfl, rfl, [], Nat.le_refl _, own_nil _ _ _ _, Below.refl _ _, .inl ⟨Nat.zero_le _, by simp⟩⟩
    case round =>
      obtain ⟨k, f, hk, hf, rfl, rfl, out, hol, hown, hbr, hcase⟩ := hrel
      have HO := Lib.hid hown; clear hown
      have HC := Lib.hid hcase; clear hcase
      by_cases hlt : k < s.size
      · by_cases hc : s[k].toNat = 44
        · have hc2 : ((s[k].toNat : Int) != 44) = false := by simp [hc]
          have hcs : (s[k].toNat : Int) = 44 := by omega
          have HAN : Hid (number (bytes (s.extract f k)) = none → args (bytes s) = none) := fun hn => by
            rcases HC.out with ⟨_, h⟩ | ⟨h, _⟩
            · rw [HE.out, h, drop_cons hlt, argsLoop, if_pos hcs, ← bytes_extract, hn]
            · omega
          have HAS : Hid (∀ n, number (bytes (s.extract f k)) = some n → argsLoop [] [] (bytes s) = argsLoop (out ++ [n]) (((bytes s).take (k + 1)).drop (k + 1)) ((bytes s).drop (k + 1))) := fun n hn => by
            rcases HC.out with ⟨_, h⟩ | ⟨h, _⟩
            · rw [h, drop_cons hlt, argsLoop, if_pos hcs, ← bytes_extract, hn]
              dsimp only
              rw [show ((bytes s).take (k + 1)).drop (k + 1) = [] from List.drop_eq_nil_of_le (by rw [List.length_take]; omega)]
            · omega
          have HX : Hid ((s.extract f k).size ≤ maxLen ∧ True) := ⟨by unfold maxLen; simp; omega, trivial⟩
          clear hc hcs
          have hi1 : (0 : Int) ≤ (f : Int) := by omega
          have hi2 : (f : Int) ≤ (k : Int) := by omega
          have hi3 : (k : Int) ≤ (s.size : Int) := by omega
          go_wp2_with fail
          refine (number_any (s := s.extract f k) (HX.out.1) wr).mono ?_
          rintro e w2 ⟨he, rfl⟩
          cases hn : number (bytes (s.extract f k)) with
          | none =>
            rw [show numV (bytes (s.extract f k)) = 0 from by unfold numV; rw [hn]; rfl, show numOk (bytes (s.extract f k)) = false from by unfold numOk; rw [hn]; rfl] at he
            subst he
            have HA : Hid (args (bytes s) = none) := HAN.out hn
            clear hn
            go_wp2_with fail
            go_ret2
            exact ⟨hbr, .inl ⟨HA.out, rfl⟩⟩
          | some n =>
            rw [show numV (bytes (s.extract f k)) = n from by unfold numV; rw [hn]; rfl, show numOk (bytes (s.extract f k)) = true from by unfold numOk; rw [hn]; rfl] at he
            subst he
            have HA := Lib.hid (HAS.out n hn)
            clear hn
            go_wp2_with (at_builtin; refine own.wpList_push _ rfl _ _ 24 rfl w.heap.size 47 .u64 (.int .u64 0) 8 Tryd.underlying24 info64 rfl _ _ n rfl (HO.out.alloc _) ⟨wr.heap.size, 0, none⟩ 1 rfl ?c1 ?c2 (by decide) ?c4 ?_)
            case c1 => exact cell_new _ _ _
            case c2 => omega
            case c4 => have := hbr.size; simp; omega
            intro v' w3 hown3 hgrow3
            have hbr3 := below_grown (hbr.alloc hbr.size _) hgrow3 (HO.out.alloc _) (Nat.le_refl _)
            have HO3 := Lib.hid hown3
            clear hown3 hgrow3
            go_wp2_with fail
            go_roundw
            case rel => exact ⟨k + 1, k + 1, by omega, Nat.le_refl _, by go_num, by go_num, out ++ [n], by rw [List.length_append]; simp; omega, HO3.out, hbr3, .inl ⟨by omega, HA.out⟩⟩
            case measure => simp [intOf]; omega
        · have hc2 : ((s[k].toNat : Int) != 44) = true := by rw [bne_iff_ne]; omega
          have HA : Hid (argsLoop [] [] (bytes s) = argsLoop out (((bytes s).take (k + 1)).drop f) ((bytes s).drop (k + 1))) := by
            rcases HC.out with ⟨_, h⟩ | ⟨h, _⟩
            · unfold Hid
              rw [h, drop_cons hlt, argsLoop, if_neg (by omega), take_snoc hlt hf]
            · omega
          clear hc
          go_wp2_with fail
          go_roundw
          case rel => exact ⟨k + 1, f, by omega, by omega, by go_num, rfl, out, hol, HO.out, hbr, .inl ⟨by omega, HA.out⟩⟩
          case measure => simp [intOf]; omega
      · by_cases hke : k = s.size
        · have HAN : Hid (number (bytes (s.extract f k)) = none → args (bytes s) = none) := fun hn => by
            rcases HC.out with ⟨_, h⟩ | ⟨h, _⟩
            · rw [HE.out, h, show (bytes s).drop k = [] from List.drop_eq_nil_of_le (by rw [HL.out]; omega), argsLoop, ← bytes_extract, hn]
              rfl
            · omega
          have HAS : Hid (∀ n, number (bytes (s.extract f k)) = some n → argsLoop [] [] (bytes s) = some (out ++ [n])) := fun n hn => by
            rcases HC.out with ⟨_, h⟩ | ⟨h, _⟩
            · rw [h, show (bytes s).drop k = [] from List.drop_eq_nil_of_le (by rw [HL.out]; omega), argsLoop, ← bytes_extract, hn]
              rfl
            · omega
          have HX : Hid ((s.extract f k).size ≤ maxLen ∧ True) := ⟨by unfold maxLen; simp; omega, trivial⟩
          have hi1 : (0 : Int) ≤ (f : Int) := by omega
          have hi2 : (f : Int) ≤ (k : Int) := by omega
          have hi3 : (k : Int) ≤ (s.size : Int) := by omega
          have hi4 : ¬ (k : Int) < (s.size : Int) := by omega
          have hke2 : k ≤ s.size ∧ s.size ≤ k := by omega
          obtain ⟨hke3, hke4⟩ := hke2
          clear hke
          go_wp2_with fail
          refine (number_any (s := s.extract f k) (HX.out.1) wr).mono ?_
          rintro e w2 ⟨he, rfl⟩
          cases hn : number (bytes (s.extract f k)) with
          | none =>
            rw [show numV (bytes (s.extract f k)) = 0 from by unfold numV; rw [hn]; rfl, show numOk (bytes (s.extract f k)) = false from by unfold numOk; rw [hn]; rfl] at he
            subst he
            have HA : Hid (args (bytes s) = none) := HAN.out hn
            clear hn
            go_wp2_with fail
            go_ret2
            exact ⟨hbr, .inl ⟨HA.out, rfl⟩⟩
          | some n =>
            rw [show numV (bytes (s.extract f k)) = n from by unfold numV; rw [hn]; rfl, show numOk (bytes (s.extract f k)) = true from by unfold numOk; rw [hn]; rfl] at he
            subst he
            have HA := Lib.hid (HAS.out n hn)
            clear hn
            go_wp2_with (at_builtin; refine own.wpList_push _ rfl _ _ 24 rfl w.heap.size 47 .u64 (.int .u64 0) 8 Tryd.underlying24 info64 rfl _ _ n rfl (HO.out.alloc _) ⟨wr.heap.size, 0, none⟩ 1 rfl ?c1 ?c2 (by decide) ?c4 ?_)
            case c1 => exact cell_new _ _ _
            case c2 => omega
            case c4 => have := hbr.size; simp; omega
            intro v' w3 hown3 hgrow3
            have hbr3 := below_grown (hbr.alloc hbr.size _) hgrow3 (HO.out.alloc _) (Nat.le_refl _)
            have HO3 := Lib.hid hown3
            clear hown3 hgrow3
            go_wp2_with fail
            go_roundw
            case rel => exact ⟨k + 1, k + 1, by omega, Nat.le_refl _, by go_num, by go_num, out ++ [n], by rw [List.length_append]; simp; omega, HO3.out, hbr3, .inr ⟨by omega, HA.out⟩⟩
            case measure => simp [intOf]; omega
        · have HA : Hid (args (bytes s) = some out) := by
            rcases HC.out with ⟨h, _⟩ | ⟨_, h⟩
            · omega
            · unfold Hid; rw [HE.out, h]
          have hk2 : (s.size : Int) < (k : Int) := by omega
          go_wp2_with fail
          go_ret2
          exact ⟨hbr, .inr ⟨out, _, HA.out, rfl, HO.out⟩⟩
end Go.Proofs.YtolampkhohahlaaDoor.g3
