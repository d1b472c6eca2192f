/- Entries read a byte at a time: numbers, and rows of numbers, as the program gathers them. Plain mathematics; nothing here speaks of a program. -/
import Derived.Test.YtolampkhohahlaaDoorGlyphS
namespace Go.Proofs.YtolampkhohahlaaDoor.gl
structure Num where
  v : Int
  d : Bool
  wr : Bool
def Num.zero : Num := ⟨0, false, false⟩
def Num.step (n : Num) (b : Int) : Num := ⟨(n.v * 10 + (b - 48)) % 18446744073709551616, true, n.wr || (n.d && n.v == 0) || decide (18446744073709551615 < n.v * 10 + (b - 48))⟩
def Num.one (n : Num) : Bool := n.d && !n.wr
def numOf (X : Bs) : Num := X.foldl Num.step Num.zero
theorem numOf_snoc (X : Bs) (b : Int) : numOf (X ++ [b]) = (numOf X).step b := by simp [numOf]
theorem numLoop_ge (X : Bs) : ∀ (a v : Int), 0 ≤ a → numLoop a X = some v → a * 10 ^ X.length ≤ v := by
  induction X with
  | nil => intro a v _ h; simp [numLoop] at h; simp [h]
  | cons b X ih =>
    intro a v ha h
    unfold numLoop at h
    split at h
    · simp at h
    · rename_i hb
      have h2 := ih (10 * a + (b - 48)) v (by omega) h
      have h3 : (a * 10) * 10 ^ X.length ≤ (10 * a + (b - 48)) * 10 ^ X.length := Int.mul_le_mul_of_nonneg_right (by omega) (by exact_mod_cast Nat.zero_le (10 ^ X.length))
      rw [List.length_cons, Int.pow_succ, Int.mul_comm (10 ^ X.length) 10, ← Int.mul_assoc]
      omega
theorem numLoop_u64 (X : Bs) : ∀ (a v : Int), U64 a → numLoop a X = some v → U64 v := by
  induction X with
  | nil => intro a v ha h; simp [numLoop] at h; subst h; exact ha
  | cons b X ih =>
    intro a v ha h
    unfold numLoop at h
    split at h
    · simp at h
    · rename_i hb
      refine ih _ v ?_ h
      unfold U64 at *
      omega
theorem numLoop_one (v b : Int) (hb : Dig b) : numLoop v [b] = if 18446744073709551615 < v * 10 + (b - 48) then none else some (v * 10 + (b - 48)) := by
  unfold Dig at hb
  unfold numLoop
  split
  · rw [if_pos (by omega)]
  · rw [if_neg (by omega)]
    simp [numLoop]
    omega
theorem pow20 (n : Nat) (h : 19 ≤ n) : (10000000000000000000 : Int) ≤ 10 ^ n := by
  have h1 : (10 : Nat) ^ 19 ≤ 10 ^ n := Nat.pow_le_pow_right (by omega) h
  have h2 : ((10 ^ n : Nat) : Int) = (10 : Int) ^ n := by norm_cast
  rw [← h2]
  have : (10 : Nat) ^ 19 = 10000000000000000000 := by decide
  omega
theorem bt_snoc (X : Bs) (b : Int) (h : X ≠ []) : bt (X ++ [b]) 0 = bt X 0 := bt_app X [b] 0 (List.length_pos_iff.2 h)
/-- What is behind digits that a number has: it is not zero at its head, unless it is zero. -/
theorem number_some {X : Bs} {v : Int} (h : number X = some v) : X ≠ [] ∧ X.length ≤ 20 ∧ (1 < X.length → bt X 0 ≠ 48) ∧ numLoop 0 X = some v := by
  unfold number at h
  split at h
  · simp at h
  · rename_i h1
    refine ⟨fun e => h1 (.inl e), by omega, fun h2 e => h1 (.inr (.inr ⟨h2, e⟩)), h⟩
theorem head_ge {X : Bs} {v : Int} (h : numLoop 0 X = some v) (h0 : X ≠ []) (hb : bt X 0 ≠ 48) : (10 : Int) ^ (X.length - 1) ≤ v := by
  cases X with
  | nil => exact (h0 rfl).elim
  | cons b X =>
    have hb' : b ≠ 48 := by simpa [bt] using hb
    unfold numLoop at h
    split at h
    · simp at h
    · rename_i h1
      have h2 := numLoop_ge X _ v (by omega) h
      have h3 : (1 : Int) * 10 ^ X.length ≤ (10 * 0 + (b - 48)) * 10 ^ X.length := Int.mul_le_mul_of_nonneg_right (by omega) (by exact_mod_cast Nat.zero_le (10 ^ X.length))
      simp only [List.length_cons, Nat.add_sub_cancel]
      omega
theorem number_step (X : Bs) (hX : ∀ b ∈ X, Dig b) (b : Int) (hb : Dig b) :
    number (X ++ [b]) = if X = [] then some (b - 48) else match number X with | none => none | some v => if v = 0 ∨ 18446744073709551615 < v * 10 + (b - 48) then none else some (v * 10 + (b - 48)) := by
  by_cases h0 : X = []
  · subst h0
    unfold number
    rw [if_neg (by simp), List.nil_append, numLoop_one 0 b hb, if_pos rfl]
    unfold Dig at hb
    rw [if_neg (by omega)]
    simp
  · rw [if_neg h0]
    have hl : 0 < X.length := List.length_pos_iff.2 h0
    cases hn : number X with
    | none =>
      unfold number at hn ⊢
      split at hn
      · rename_i h1
        rw [if_pos]
        rcases h1 with h1 | h1 | ⟨h1, h2⟩
        · exact (h0 h1).elim
        · exact .inr (.inl (by rw [List.length_append]; simp; omega))
        · exact .inr (.inr ⟨by rw [List.length_append]; simp; omega, by rw [bt_snoc X b h0]; exact h2⟩)
      · split
        · rfl
        · rw [numLoop_app, hn]; rfl
    | some v =>
      obtain ⟨_, h20, hh, hv⟩ := number_some hn
      have hv64 := numLoop_u64 X 0 v ⟨by omega, by omega⟩ hv
      unfold U64 at hv64
      dsimp only
      by_cases hz : bt X 0 = 48
      · have h1 : X.length = 1 := by
          rcases Nat.lt_or_ge 1 X.length with h | h
          · exact (hh h hz).elim
          · omega
        have hX1 : X = [48] := by
          match X, h1 with
          | [c], _ => simp [bt] at hz; rw [hz]
        subst hX1
        have hv0 : v = 0 := by simp [numLoop] at hv; exact hv.symm
        rw [if_pos (.inl hv0)]
        unfold number
        rw [if_pos (.inr (.inr ⟨by simp, by simp [bt]⟩))]
      · have hg := head_ge hv h0 hz
        have hv1 : (1 : Int) ≤ 10 ^ (X.length - 1) := by
          have : 0 < 10 ^ (X.length - 1) := Nat.pow_pos (by omega)
          have h2 : ((10 ^ (X.length - 1) : Nat) : Int) = (10 : Int) ^ (X.length - 1) := by norm_cast
          omega
        by_cases hov : 18446744073709551615 < v * 10 + (b - 48)
        · rw [if_pos (.inr hov)]
          unfold number
          split
          · rfl
          · rw [numLoop_app, hv]
            show numLoop v [b] = none
            rw [numLoop_one v b hb, if_pos hov]
        · rw [if_neg (by omega)]
          have hlen : X.length < 20 := by
            rcases Nat.lt_or_ge X.length 20 with h | h
            · exact h
            · have := pow20 (X.length - 1) (by omega)
              unfold Dig at hb
              omega
          unfold number
          rw [if_neg, numLoop_app, hv]
          · show numLoop v [b] = _
            rw [numLoop_one v b hb, if_neg hov]
          · rintro (h | h | ⟨_, h⟩)
            · simp at h
            · rw [List.length_append] at h; simp at h; omega
            · rw [bt_snoc X b h0] at h; exact hz h
theorem numOf_is (n : Nat) : ∀ (X : Bs), X.length = n → (∀ b ∈ X, Dig b) → (numOf X).d = !X.isEmpty ∧ U64 (numOf X).v ∧ number X = if (numOf X).one then some (numOf X).v else none := by
  induction n with
  | zero =>
    intro X h _
    obtain rfl : X = [] := List.eq_nil_of_length_eq_zero h
    refine ⟨rfl, ⟨by decide, by decide⟩, ?_⟩
    unfold number
    rw [if_pos (.inl rfl)]
    rfl
  | succ n ih =>
    intro X h hX
    have h0 : X ≠ [] := fun e => by subst e; simp at h
    obtain ⟨Y, b, rfl⟩ : ∃ Y b, X = Y ++ [b] := ⟨X.dropLast, X.getLast h0, (List.dropLast_concat_getLast h0).symm⟩
    have hY : ∀ b ∈ Y, Dig b := fun c hc => hX c (List.mem_append_left _ hc)
    have hb : Dig b := hX b (by simp)
    obtain ⟨i1, i2, i3⟩ := ih Y (by simpa using h) hY
    rw [numOf_snoc]
    have hs := number_step Y hY b hb
    unfold U64 at i2
    unfold Dig at hb
    refine ⟨by simp [Num.step], ?_, ?_⟩
    · unfold U64 Num.step; dsimp only; omega
    · rw [hs]
      by_cases hy : Y = []
      · subst hy
        rw [if_pos rfl]
        have hz : ¬ (18446744073709551615 < 0 * 10 + (b - 48)) := by omega
        have hone : (((numOf []).step b).one) = true := by
          show (true && !((false || (false && ((0 : Int) == 0))) || decide (18446744073709551615 < 0 * 10 + (b - 48)))) = true
          simp
          omega
        rw [if_pos hone]
        congr 1
        show b - 48 = (0 * 10 + (b - 48)) % 18446744073709551616
        omega
      · rw [if_neg hy, i3]
        have hd : (numOf Y).d = true := by rw [i1]; cases Y <;> simp_all
        unfold Num.one Num.step
        rw [hd]
        dsimp only
        cases hw : (numOf Y).wr with
        | true => simp
        | false =>
          simp only [Bool.not_false, Bool.and_self, if_true, Bool.false_or, Bool.true_and]
          by_cases hv : (numOf Y).v = 0 ∨ 18446744073709551615 < (numOf Y).v * 10 + (b - 48)
          · rw [if_pos hv, if_neg]
            rcases hv with hv | hv
            · simp [hv]
            · simp [hv]
          · rw [if_neg hv, if_pos]
            · congr 1
              omega
            · simp
              omega

/-! ### A row of numbers -/
/-- What a reading holds: the numbers so far, whether they are right, and the last one. -/
structure Rd where
  args : List Int
  ok : Bool
  num : Num
def Rd.cut (x : Rd) : Rd := ⟨x.args ++ [x.num.v], x.ok && x.num.one, Num.zero⟩
def Rd.step (x : Rd) (b : Int) : Rd := if b = 44 then x.cut else ⟨x.args, x.ok, x.num.step b⟩
def Rd.start (ok : Bool) : Rd := ⟨[], ok, Num.zero⟩
def rdOf (ok : Bool) (X : Bs) : Rd := X.foldl Rd.step (Rd.start ok)
theorem rdOf_snoc (ok : Bool) (X : Bs) (b : Int) : rdOf ok (X ++ [b]) = (rdOf ok X).step b := by simp [rdOf]
/-- A reading that is closed. -/
def Rd.done (x : Rd) (more : Bool) : Rd := if more then x.cut else x
theorem rd_inv (ok : Bool) (n : Nat) : ∀ X : Bs, X.length = n → (∀ b ∈ X, numb b = true) →
    ∃ cur : Bs, (∀ b ∈ cur, Dig b) ∧ (rdOf ok X).num = numOf cur ∧ (rdOf ok X).args.length ≤ X.length ∧ (∀ m ∈ (rdOf ok X).args, U64 m) ∧
      (if (rdOf ok X).ok then ok = true ∧ ∀ L, argsLoop [] [] (X ++ L) = argsLoop (rdOf ok X).args cur L else ok = false ∨ ∀ L, argsLoop [] [] (X ++ L) = none) := by
  induction n with
  | zero =>
    intro X h _
    obtain rfl : X = [] := List.eq_nil_of_length_eq_zero h
    refine ⟨[], by simp, rfl, Nat.le_refl _, fun m hm => by simp [rdOf, Rd.start] at hm, ?_⟩
    cases ok
    · simp [rdOf, Rd.start]
    · simp [rdOf, Rd.start]
  | succ n ih =>
    intro X h hX
    have h0 : X ≠ [] := fun e => by subst e; simp at h
    obtain ⟨Y, b, rfl⟩ : ∃ Y b, X = Y ++ [b] := ⟨X.dropLast, X.getLast h0, (List.dropLast_concat_getLast h0).symm⟩
    have hb : numb b = true := hX b (by simp)
    obtain ⟨cur, i1, i2, i3, i5, i4⟩ := ih Y (by simpa using h) (fun c hc => hX c (List.mem_append_left _ hc))
    obtain ⟨n1, n2, n3⟩ := numOf_is cur.length cur rfl i1
    rw [rdOf_snoc]
    unfold Rd.step
    by_cases hc : b = 44
    · subst hc
      rw [if_pos rfl]
      refine ⟨[], by simp, rfl, by simp [Rd.cut]; omega, ?_, ?_⟩
      · intro m hm
        simp only [Rd.cut, List.mem_append, List.mem_singleton] at hm
        rcases hm with hm | rfl
        · exact i5 m hm
        · rw [i2]; exact n2
      unfold Rd.cut
      dsimp only
      have hstep : ∀ (out : List Int) (L : Bs), argsLoop out cur (44 :: L) = match number cur with | none => none | some n => argsLoop (out ++ [n]) [] L := fun out L => by
        rw [argsLoop, if_pos rfl]
        cases number cur <;> rfl
      rw [i2]
      cases ho : (rdOf ok Y).ok with
      | false =>
        rw [ho] at i4
        simp only [Bool.false_and, Bool.false_eq_true, if_false] at i4 ⊢
        rcases i4 with i4 | i4
        · exact .inl i4
        · refine .inr fun L => ?_
          rw [List.append_assoc]
          exact i4 _
      | true =>
        rw [ho] at i4
        simp only [if_true] at i4
        cases hone : (numOf cur).one with
        | false =>
          rw [hone] at n3
          simp only [Bool.and_false, Bool.false_eq_true, if_false] at n3 ⊢
          refine .inr fun L => ?_
          rw [List.append_assoc, i4.2]
          show argsLoop _ cur (44 :: L) = none
          rw [hstep, n3]
        | true =>
          rw [hone] at n3
          simp only [Bool.and_self, if_true] at n3 ⊢
          refine ⟨i4.1, fun L => ?_⟩
          rw [List.append_assoc, i4.2]
          show argsLoop _ cur (44 :: L) = _
          rw [hstep, n3]
    · rw [if_neg hc]
      have hd : Dig b := by
        unfold numb at hb
        unfold Dig
        simp at hb
        omega
      refine ⟨cur ++ [b], ?_, ?_, by simp; omega, i5, ?_⟩
      · intro c hcm
        rcases List.mem_append.1 hcm with h1 | h1
        · exact i1 c h1
        · simp at h1; subst h1; exact hd
      · rw [numOf_snoc, i2]
      · dsimp only
        cases ho : (rdOf ok Y).ok with
        | false =>
          rw [ho] at i4
          simp only [Bool.false_eq_true, if_false] at i4 ⊢
          rcases i4 with i4 | i4
          · exact .inl i4
          · refine .inr fun L => ?_
            rw [List.append_assoc]
            exact i4 _
        | true =>
          rw [ho] at i4
          simp only [if_true] at i4 ⊢
          refine ⟨i4.1, fun L => ?_⟩
          rw [List.append_assoc, i4.2]
          show argsLoop _ cur (b :: L) = _
          rw [argsLoop, if_neg hc]
/-- The entry that a reading ends as. -/
theorem rd_done (r : Int) (at_ : Nat) (X : Bs) (hX : ∀ b ∈ X, numb b = true) :
    entOf r (args X) at_ = ⟨r, if ((rdOf (!numb r) X).done (!X.isEmpty)).ok then ((rdOf (!numb r) X).done (!X.isEmpty)).args else [], ((rdOf (!numb r) X).done (!X.isEmpty)).ok, at_⟩ := by
  by_cases h0 : X = []
  · subst h0
    unfold entOf args Rd.done rdOf Rd.start
    cases numb r <;> simp
  · have he : X.isEmpty = false := by cases X <;> simp_all
    obtain ⟨cur, i1, i2, _, _, i4⟩ := rd_inv (!numb r) X.length X rfl hX
    obtain ⟨n1, n2, n3⟩ := numOf_is cur.length cur rfl i1
    unfold Rd.done
    rw [he]
    simp only [Bool.not_false, if_true]
    unfold Rd.cut
    dsimp only
    rw [i2]
    unfold entOf args
    rw [if_neg h0]
    cases ho : (rdOf (!numb r) X).ok with
    | false =>
      rw [ho] at i4
      simp only [Bool.false_eq_true, if_false] at i4
      simp only [Bool.false_and, Bool.false_eq_true, if_false]
      cases hn : numb r with
      | true => simp
      | false =>
        rcases i4 with i4 | i4
        · rw [hn] at i4; cases i4
        · have := i4 []
          rw [List.append_nil] at this
          rw [this]
          simp
    | true =>
      rw [ho] at i4
      simp only [if_true] at i4
      have hn : numb r = false := by have := i4.1; cases h : numb r <;> simp_all
      have h2 := i4.2 []
      rw [List.append_nil, argsLoop, n3] at h2
      rw [hn] at h2 ⊢
      rw [h2]
      cases hone : (numOf cur).one with
      | false => simp
      | true => simp
theorem rd_u64 (ok : Bool) (X : Bs) (hX : ∀ b ∈ X, numb b = true) : U64 (rdOf ok X).num.v ∧ (rdOf ok X).args.length ≤ X.length ∧ ∀ m ∈ (rdOf ok X).args, U64 m := by
  obtain ⟨cur, i1, i2, i3, i5, _⟩ := rd_inv ok X.length X rfl hX
  refine ⟨?_, i3, i5⟩
  rw [i2]
  exact (numOf_is cur.length cur rfl i1).2.1
end Go.Proofs.YtolampkhohahlaaDoor.gl
