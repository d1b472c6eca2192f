/- Texts of entries: runes, numbers, parsing and putting, and what follows of them. Plain mathematics; nothing here speaks of a program. -/
import Derived.Test.YtolampkhohahlaaDoorRows
namespace Go.Proofs.YtolampkhohahlaaDoor.gl
/-- Bytes, as whole numbers. -/
abbrev Bs := List Int
def bt (L : Bs) (i : Nat) : Int := L.getD i (-1)
def inn (L : Bs) (i : Nat) (lo hi : Int) : Bool := decide (lo ≤ bt L i) && decide (bt L i ≤ hi)
def lo2 (c : Int) : Int := if c = 224 then 160 else 128
def hi2 (c : Int) : Int := if c = 237 then 159 else 191
def lo3 (c : Int) : Int := if c = 240 then 144 else 128
def hi3 (c : Int) : Int := if c = 244 then 143 else 191
/-- The rune that bytes begin with, and of how many bytes it is. -/
def rune (L : Bs) : Int × Nat :=
  let c := bt L 0
  if c < 128 then (c, 1)
  else if 194 ≤ c ∧ c ≤ 223 then (bif inn L 1 128 191 then ((c - 192) * 64 + (bt L 1 - 128), 2) else (65533, 1))
  else if 224 ≤ c ∧ c ≤ 239 then (bif inn L 1 (lo2 c) (hi2 c) && inn L 2 128 191 then ((c - 224) * 4096 + (bt L 1 - 128) * 64 + (bt L 2 - 128), 3) else (65533, 1))
  else if 240 ≤ c ∧ c ≤ 244 then (bif inn L 1 (lo3 c) (hi3 c) && inn L 2 128 191 && inn L 3 128 191 then ((c - 240) * 262144 + (bt L 1 - 128) * 4096 + (bt L 2 - 128) * 64 + (bt L 3 - 128), 4) else (65533, 1))
  else (65533, 1)
def blank (r : Int) : Bool := r == 9 || r == 10 || r == 32
def numb (r : Int) : Bool := (decide (48 ≤ r) && decide (r ≤ 57)) || r == 44
def numLoop : Int → Bs → Option Int
  | n, [] => some n
  | n, b :: L => if b < 48 ∨ 57 < b ∨ 1844674407370955161 < n ∨ (n = 1844674407370955161 ∧ 53 < b) then none else numLoop (10 * n + (b - 48)) L
def number (L : Bs) : Option Int := if L = [] ∨ 20 < L.length ∨ (1 < L.length ∧ bt L 0 = 48) then none else numLoop 0 L
def argsLoop (out : List Int) (cur : Bs) : Bs → Option (List Int)
  | [] => (number cur).map fun n => out ++ [n]
  | b :: L => if b = 44 then (match number cur with | none => none | some n => argsLoop (out ++ [n]) [] L) else argsLoop out (cur ++ [b]) L
def args (L : Bs) : Option (List Int) := if L = [] then some [] else argsLoop [] [] L
structure Ent where
  op : Int
  args : List Int
  ok : Bool
  at_ : Nat
def entOf (r : Int) (a : Option (List Int)) (at_ : Nat) : Ent :=
  if numb r then ⟨r, [], false, at_⟩ else match a with | some l => ⟨r, l, true, at_⟩ | none => ⟨r, [], false, at_⟩
/-- The bytes of numbers that a list begins with. -/
def nums (L : Bs) : Bs := L.takeWhile numb
def parseF : Nat → Nat → Bs → List Ent
  | 0, _, _ => []
  | _ + 1, _, [] => []
  | f + 1, at_, b :: L =>
    let L' := b :: L
    let r := (rune L').1
    let n := (rune L').2
    if blank r then parseF f (at_ + n) (L'.drop n)
    else
      let k := (nums (L'.drop n)).length
      entOf r (args (nums (L'.drop n))) at_ :: parseF f (at_ + n + k) (L'.drop (n + k))
def parse (L : Bs) : List Ent := parseF L.length 0 L

/-! ### Putting -/
def utf8 (r : Int) : Bs :=
  if r < 128 then [r] else if r < 2048 then [192 + r / 64, 128 + r % 64]
  else if r < 65536 then [224 + r / 4096, 128 + r / 64 % 64, 128 + r % 64]
  else [240 + r / 262144, 128 + r / 4096 % 64, 128 + r / 64 % 64, 128 + r % 64]
def digF : Nat → Nat → Bs
  | 0, _ => []
  | f + 1, n => if n < 10 then [48 + (n : Int)] else digF f (n / 10) ++ [48 + ((n % 10 : Nat) : Int)]
def digits (n : Int) : Bs := digF 20 n.toNat
def putA : List Int → Bs
  | [] => []
  | [n] => digits n
  | n :: m :: l => digits n ++ (44 :: putA (m :: l))
def bad (e : Ent) : Bool := !e.ok || decide (e.op < 0) || decide (1114111 < e.op) || (decide (55296 ≤ e.op) && decide (e.op ≤ 57343)) || e.op == 65533 || blank e.op || numb e.op
def put1 (e : Ent) : Bs := utf8 e.op ++ putA e.args
def put (l : List Ent) : Bs := l.flatMap put1

/-! ### What a rune hangs on -/
theorem bt_app (A B : Bs) (i : Nat) (h : i < A.length) : bt (A ++ B) i = bt A i := by simp [bt, List.getD, List.getElem?_append_left h]
theorem rune_pos (L : Bs) : 1 ≤ (rune L).2 := by
  unfold rune
  dsimp only
  repeat' split
  all_goals first | simp | (cases inn L 1 128 191 <;> simp) | (cases (inn L 1 (lo2 (bt L 0)) (hi2 (bt L 0)) && inn L 2 128 191) <;> simp) | (cases (inn L 1 (lo3 (bt L 0)) (hi3 (bt L 0)) && inn L 2 128 191 && inn L 3 128 191) <;> simp)
theorem inn_lt {L : Bs} {i : Nat} {lo hi : Int} (h : inn L i lo hi = true) (hlo : 0 ≤ lo) : i < L.length := by
  by_cases hi' : i < L.length
  · exact hi'
  · simp [inn, bt, List.getD, hi'] at h
    omega
theorem lo2_ge (c : Int) : 128 ≤ lo2 c := by unfold lo2; split <;> omega
theorem lo3_ge (c : Int) : 128 ≤ lo3 c := by unfold lo3; split <;> omega
theorem inn_app (A B : Bs) (i : Nat) (h : i < A.length) (lo hi : Int) : inn (A ++ B) i lo hi = inn A i lo hi := by unfold inn; rw [bt_app A B i h]
theorem inn_out (A : Bs) (i : Nat) (h : A.length ≤ i) (lo hi : Int) (hlo : 0 ≤ lo) : inn A i lo hi = false := by
  have e : bt A i = -1 := by simp [bt, List.getD, h]
  unfold inn
  rw [e]
  simp
  omega
theorem inn_edge (A B : Bs) (hB : B = [] ∨ bt B 0 < 128) (i : Nat) (h : i = A.length) (lo hi : Int) (hlo : 128 ≤ lo) : inn (A ++ B) i lo hi = false := by
  subst h
  rcases hB with rfl | hB
  · rw [List.append_nil]; exact inn_out A _ (Nat.le_refl _) lo hi (by omega)
  · have e : bt (A ++ B) A.length = bt B 0 := by simp [bt, List.getD, List.getElem?_append_right]
    unfold inn
    rw [e]
    simp
    omega
/-- What is asked of the second byte, and the third, and the fourth one, of a list that goes on with a byte that is no rune's end: as of the list alone. -/
theorem inn1_app (A B : Bs) (hA : 0 < A.length) (hB : B = [] ∨ bt B 0 < 128) (lo hi : Int) (hlo : 128 ≤ lo) : inn (A ++ B) 1 lo hi = inn A 1 lo hi := by
  by_cases h : 1 < A.length
  · exact inn_app A B 1 h lo hi
  · rw [inn_edge A B hB 1 (by omega) lo hi hlo, inn_out A 1 (by omega) lo hi (by omega)]
theorem inn2_app (A B : Bs) (hA : 0 < A.length) (hB : B = [] ∨ bt B 0 < 128) (lo hi : Int) (hlo : 128 ≤ lo) : (inn (A ++ B) 1 lo hi && inn (A ++ B) 2 128 191) = (inn A 1 lo hi && inn A 2 128 191) := by
  rw [inn1_app A B hA hB lo hi hlo]
  by_cases h1 : 1 < A.length
  · congr 1
    by_cases h : 2 < A.length
    · exact inn_app A B 2 h _ _
    · rw [inn_edge A B hB 2 (by omega) _ _ (by omega), inn_out A 2 (by omega) _ _ (by omega)]
  · rw [inn_out A 1 (by omega) lo hi (by omega)]
    rfl
theorem inn3_app (A B : Bs) (hA : 0 < A.length) (hB : B = [] ∨ bt B 0 < 128) (lo hi : Int) (hlo : 128 ≤ lo) : (inn (A ++ B) 1 lo hi && inn (A ++ B) 2 128 191 && inn (A ++ B) 3 128 191) = (inn A 1 lo hi && inn A 2 128 191 && inn A 3 128 191) := by
  rw [inn2_app A B hA hB lo hi hlo]
  by_cases h1 : 2 < A.length
  · congr 1
    by_cases h : 3 < A.length
    · exact inn_app A B 3 h _ _
    · rw [inn_edge A B hB 3 (by omega) _ _ (by omega), inn_out A 3 (by omega) _ _ (by omega)]
  · rw [inn_out A 2 (by omega) 128 191 (by omega)]
    simp
theorem rune_app (A B : Bs) (hA : 0 < A.length) (hB : B = [] ∨ bt B 0 < 128) : rune (A ++ B) = rune A := by
  unfold rune
  dsimp only
  rw [bt_app A B 0 hA, inn1_app A B hA hB 128 191 (by omega), inn2_app A B hA hB _ _ (lo2_ge _), inn3_app A B hA hB _ _ (lo3_ge _)]
  have key : ∀ i, i < A.length → bt (A ++ B) i = bt A i := fun i h => bt_app A B i h
  split
  · rfl
  · split
    · cases h : inn A 1 128 191 with
      | false => rfl
      | true => rw [key 1 (inn_lt h (by omega))]
    · split
      · cases h : (inn A 1 (lo2 (bt A 0)) (hi2 (bt A 0)) && inn A 2 128 191) with
        | false => rfl
        | true =>
          rw [Bool.and_eq_true] at h
          rw [key 1 (inn_lt h.1 (by have := lo2_ge (bt A 0); omega)), key 2 (inn_lt h.2 (by omega))]
      · split
        · cases h : (inn A 1 (lo3 (bt A 0)) (hi3 (bt A 0)) && inn A 2 128 191 && inn A 3 128 191) with
          | false => rfl
          | true =>
            rw [Bool.and_eq_true, Bool.and_eq_true] at h
            rw [key 1 (inn_lt h.1.1 (by have := lo3_ge (bt A 0); omega)), key 2 (inn_lt h.1.2 (by omega)), key 3 (inn_lt h.2 (by omega))]
        · rfl
theorem rune_le (L : Bs) (h : 0 < L.length) : (rune L).2 ≤ L.length := by
  unfold rune
  dsimp only
  split
  · exact h
  · split
    · cases h1 : inn L 1 128 191 with
      | false => exact h
      | true => exact inn_lt h1 (by omega)
    · split
      · cases h1 : (inn L 1 (lo2 (bt L 0)) (hi2 (bt L 0)) && inn L 2 128 191) with
        | false => exact h
        | true =>
          rw [Bool.and_eq_true] at h1
          exact inn_lt h1.2 (by omega)
      · split
        · cases h1 : (inn L 1 (lo3 (bt L 0)) (hi3 (bt L 0)) && inn L 2 128 191 && inn L 3 128 191) with
          | false => exact h
          | true =>
            rw [Bool.and_eq_true] at h1
            exact inn_lt h1.2 (by omega)
        · exact h
/-- A rune that UTF-8 can have. -/
def Uni (r : Int) : Prop := 0 ≤ r ∧ r ≤ 1114111 ∧ ¬ (55296 ≤ r ∧ r ≤ 57343)
theorem rune_utf8 (r : Int) (hr : Uni r) (R : Bs) : rune (utf8 r ++ R) = (r, (utf8 r).length) := by
  obtain ⟨h0, h1, h2⟩ := hr
  unfold utf8
  split
  · unfold rune
    simp [bt, *]
  · split
    · have e0 : bt ([192 + r / 64, 128 + r % 64] ++ R) 0 = 192 + r / 64 := by simp [bt]
      have e1 : bt ([192 + r / 64, 128 + r % 64] ++ R) 1 = 128 + r % 64 := by simp [bt]
      unfold rune inn
      dsimp only
      rw [e0, e1, if_neg (by omega), if_pos (by omega), show (decide (128 ≤ 128 + r % 64) && decide (128 + r % 64 ≤ 191)) = true by simp; omega]
      simp
      omega
    · split
      · have e0 : bt ([224 + r / 4096, 128 + r / 64 % 64, 128 + r % 64] ++ R) 0 = 224 + r / 4096 := by simp [bt]
        have e1 : bt ([224 + r / 4096, 128 + r / 64 % 64, 128 + r % 64] ++ R) 1 = 128 + r / 64 % 64 := by simp [bt]
        have e2 : bt ([224 + r / 4096, 128 + r / 64 % 64, 128 + r % 64] ++ R) 2 = 128 + r % 64 := by simp [bt]
        unfold rune inn
        dsimp only
        rw [e0, e1, e2, if_neg (by omega), if_neg (by omega), if_pos (by omega)]
        have a1 : lo2 (224 + r / 4096) ≤ 128 + r / 64 % 64 := by unfold lo2; split <;> omega
        have a2 : 128 + r / 64 % 64 ≤ hi2 (224 + r / 4096) := by unfold hi2; split <;> omega
        have a3 : 128 ≤ 128 + r % 64 := by omega
        have a4 : 128 + r % 64 ≤ 191 := by omega
        simp only [a1, a2, a3, a4, decide_true, Bool.and_self, cond_true]
        simp
        omega
      · have e0 : bt ([240 + r / 262144, 128 + r / 4096 % 64, 128 + r / 64 % 64, 128 + r % 64] ++ R) 0 = 240 + r / 262144 := by simp [bt]
        have e1 : bt ([240 + r / 262144, 128 + r / 4096 % 64, 128 + r / 64 % 64, 128 + r % 64] ++ R) 1 = 128 + r / 4096 % 64 := by simp [bt]
        have e2 : bt ([240 + r / 262144, 128 + r / 4096 % 64, 128 + r / 64 % 64, 128 + r % 64] ++ R) 2 = 128 + r / 64 % 64 := by simp [bt]
        have e3 : bt ([240 + r / 262144, 128 + r / 4096 % 64, 128 + r / 64 % 64, 128 + r % 64] ++ R) 3 = 128 + r % 64 := by simp [bt]
        unfold rune inn
        dsimp only
        rw [e0, e1, e2, e3, if_neg (by omega), if_neg (by omega), if_neg (by omega), if_pos (by omega)]
        have a1 : lo3 (240 + r / 262144) ≤ 128 + r / 4096 % 64 := by unfold lo3; split <;> omega
        have a2 : 128 + r / 4096 % 64 ≤ hi3 (240 + r / 262144) := by unfold hi3; split <;> omega
        have a3 : 128 ≤ 128 + r / 64 % 64 := by omega
        have a4 : 128 + r / 64 % 64 ≤ 191 := by omega
        have a5 : 128 ≤ 128 + r % 64 := by omega
        have a6 : 128 + r % 64 ≤ 191 := by omega
        simp only [a1, a2, a3, a4, a5, a6, decide_true, Bool.and_self, cond_true]
        simp
        omega
theorem bt_take (L : Bs) (m i : Nat) (h : i < m) : bt (L.take m) i = bt L i := by simp [bt, List.getD, h]
theorem inn_take (L : Bs) (m i : Nat) (h : i < m) (lo hi : Int) : inn (L.take m) i lo hi = inn L i lo hi := by unfold inn; rw [bt_take L m i h]
theorem inn_take_le (L : Bs) (m i : Nat) (lo hi : Int) (hlo : 0 ≤ lo) (h : inn (L.take m) i lo hi = true) : i < m ∧ inn L i lo hi = true := by
  have hl := inn_lt h hlo
  have hm : i < m := by rw [List.length_take] at hl; omega
  exact ⟨hm, by rwa [inn_take L m i hm] at h⟩
/-- What is cut off behind a rune's bytes turns nothing of it. -/
theorem rune_take (L : Bs) (m : Nat) (h : (rune L).2 ≤ m) : rune (L.take m) = rune L := by
  have hm : 0 < m := Nat.lt_of_lt_of_le (rune_pos L) h
  have h0 := bt_take L m 0 hm
  revert h
  unfold rune
  dsimp only
  rw [h0]
  split
  · exact fun _ => rfl
  · split
    · cases h1 : inn L 1 128 191 with
      | false =>
        cases h2 : inn (L.take m) 1 128 191 with
        | false => exact fun _ => rfl
        | true => rw [(inn_take_le L m 1 _ _ (by omega) h2).2] at h1; cases h1
      | true =>
        intro h
        have h : 2 ≤ m := h
        rw [inn_take L m 1 (by omega), h1, bt_take L m 1 (by omega)]
    · split
      · cases h1 : (inn L 1 (lo2 (bt L 0)) (hi2 (bt L 0)) && inn L 2 128 191) with
        | false =>
          cases h2 : (inn (L.take m) 1 (lo2 (bt L 0)) (hi2 (bt L 0)) && inn (L.take m) 2 128 191) with
          | false => exact fun _ => rfl
          | true =>
            rw [Bool.and_eq_true] at h2
            rw [(inn_take_le L m 1 _ _ (by have := lo2_ge (bt L 0); omega) h2.1).2, (inn_take_le L m 2 _ _ (by omega) h2.2).2] at h1
            cases h1
        | true =>
          intro h
          have h : 3 ≤ m := h
          rw [inn_take L m 1 (by omega), inn_take L m 2 (by omega), h1, bt_take L m 1 (by omega), bt_take L m 2 (by omega)]
      · split
        · cases h1 : (inn L 1 (lo3 (bt L 0)) (hi3 (bt L 0)) && inn L 2 128 191 && inn L 3 128 191) with
          | false =>
            cases h2 : (inn (L.take m) 1 (lo3 (bt L 0)) (hi3 (bt L 0)) && inn (L.take m) 2 128 191 && inn (L.take m) 3 128 191) with
            | false => exact fun _ => rfl
            | true =>
              rw [Bool.and_eq_true, Bool.and_eq_true] at h2
              rw [(inn_take_le L m 1 _ _ (by have := lo3_ge (bt L 0); omega) h2.1.1).2, (inn_take_le L m 2 _ _ (by omega) h2.1.2).2, (inn_take_le L m 3 _ _ (by omega) h2.2).2] at h1
              cases h1
          | true =>
            intro h
            have h : 4 ≤ m := h
            rw [inn_take L m 1 (by omega), inn_take L m 2 (by omega), inn_take L m 3 (by omega), h1, bt_take L m 1 (by omega), bt_take L m 2 (by omega), bt_take L m 3 (by omega)]
        · exact fun _ => rfl

/-! ### Numbers -/
def Dig (b : Int) : Prop := 48 ≤ b ∧ b ≤ 57
theorem numLoop_app (a : Int) (X : Bs) (b : Int) : numLoop a (X ++ [b]) = (numLoop a X).bind fun m => numLoop m [b] := by
  induction X generalizing a with
  | nil => rfl
  | cons c X ih =>
    rw [List.cons_append]
    unfold numLoop
    split
    · rfl
    · exact ih _
theorem digF_dig (f n : Nat) : ∀ b ∈ digF f n, Dig b := by
  induction f generalizing n with
  | zero => simp [digF]
  | succ f ih =>
    unfold digF
    split
    · simp [Dig]; omega
    · intro b hb
      rcases List.mem_append.1 hb with hb | hb
      · exact ih _ b hb
      · simp at hb
        unfold Dig
        omega
theorem digF_len (f n : Nat) : (digF f n).length ≤ f := by
  induction f generalizing n with
  | zero => simp [digF]
  | succ f ih =>
    unfold digF
    split
    · simp
    · rw [List.length_append]
      have := ih (n / 10)
      simp
      omega
theorem digF_num (f n : Nat) (h : n < 10 ^ f) (hf : 0 < f) (h64 : n ≤ 18446744073709551615) : numLoop 0 (digF f n) = some (n : Int) := by
  induction f generalizing n with
  | zero => omega
  | succ f ih =>
    unfold digF
    split
    · unfold numLoop
      rw [if_neg (by omega)]
      simp [numLoop]
      omega
    · have h1 : n / 10 < 10 ^ f := by rw [Nat.pow_succ] at h; omega
      have hf' : 0 < f := by
        rcases Nat.eq_zero_or_pos f with e | e
        · subst e; simp at h1; omega
        · exact e
      rw [numLoop_app, ih (n / 10) h1 hf' (by omega)]
      show numLoop _ _ = _
      unfold numLoop
      rw [if_neg (by omega)]
      simp [numLoop]
      omega
theorem digF_head (f n : Nat) (h : n < 10 ^ f) (hn : 0 < n) : bt (digF f n) 0 ≠ 48 ∧ 0 < (digF f n).length := by
  induction f generalizing n with
  | zero => simp at h; omega
  | succ f ih =>
    unfold digF
    split
    · simp [bt]; omega
    · have h1 : n / 10 < 10 ^ f := by rw [Nat.pow_succ] at h; omega
      obtain ⟨i1, i2⟩ := ih (n / 10) h1 (by omega)
      rw [bt_app _ _ 0 i2, List.length_append]
      exact ⟨i1, by omega⟩
def U64 (n : Int) : Prop := 0 ≤ n ∧ n ≤ 18446744073709551615
theorem digits_pos (n : Int) : 0 < (digits n).length := by
  unfold digits digF
  split <;> simp
theorem digits_dig (n : Int) : ∀ b ∈ digits n, Dig b := digF_dig 20 _
theorem number_digits (n : Int) (hn : U64 n) : number (digits n) = some n := by
  obtain ⟨h0, h1⟩ := hn
  have hp := digits_pos n
  have hl : (digits n).length ≤ 20 := digF_len 20 _
  have h10 : n.toNat < 10 ^ 20 := by omega
  unfold number
  rw [if_neg]
  · unfold digits
    rw [digF_num 20 n.toNat h10 (by omega) (by omega)]
    congr 1
    omega
  · intro h
    rcases h with h | h | ⟨h, h'⟩
    · rw [h] at hp; simp at hp
    · omega
    · by_cases e : n.toNat < 10
      · unfold digits digF at h
        rw [if_pos e] at h
        simp at h
      · exact (digF_head 20 n.toNat h10 (by omega)).1 h'
theorem argsLoop_app (out : List Int) (cur X R : Bs) (hX : ∀ b ∈ X, Dig b) : argsLoop out cur (X ++ R) = argsLoop out (cur ++ X) R := by
  induction X generalizing cur with
  | nil => simp
  | cons b X ih =>
    have hb := hX b (List.mem_cons_self ..)
    rw [List.cons_append]
    rw [argsLoop]
    rw [if_neg (by unfold Dig at hb; omega), ih _ (fun c hc => hX c (List.mem_cons_of_mem _ hc))]
    simp
theorem argsLoop_put (l : List Int) (hl : ∀ n ∈ l, U64 n) (h0 : l ≠ []) (out : List Int) : argsLoop out [] (putA l) = some (out ++ l) := by
  induction l generalizing out with
  | nil => exact (h0 rfl).elim
  | cons n l ih =>
    have hn := hl n (List.mem_cons_self ..)
    cases l with
    | nil =>
      have := argsLoop_app out [] (digits n) [] (digits_dig n)
      rw [List.append_nil] at this
      rw [putA, this, List.nil_append, argsLoop, number_digits n hn]
      rfl
    | cons m l =>
      rw [putA, argsLoop_app out [] (digits n) _ (digits_dig n), List.nil_append, argsLoop, if_pos rfl, number_digits n hn]
      show argsLoop (out ++ [n]) [] _ = _
      rw [ih (fun x hx => hl x (List.mem_cons_of_mem _ hx)) (by simp)]
      simp
theorem putA_pos (l : List Int) (h0 : l ≠ []) : putA l ≠ [] := by
  cases l with
  | nil => exact (h0 rfl).elim
  | cons n l =>
    have := digits_pos n
    cases l with
    | nil => rw [putA]; intro e; rw [e] at this; simp at this
    | cons m l => rw [putA]; intro e; simp at e
theorem args_put (l : List Int) (hl : ∀ n ∈ l, U64 n) : args (putA l) = some l := by
  unfold args
  by_cases h0 : l = []
  · subst h0; rfl
  · rw [if_neg (putA_pos l h0), argsLoop_put l hl h0]
    simp
theorem numb_dig {b : Int} (h : Dig b) : numb b = true := by
  unfold Dig at h
  simp [numb, h.1, h.2]
theorem putA_numb (l : List Int) : ∀ b ∈ putA l, numb b = true := by
  induction l with
  | nil => simp [putA]
  | cons n l ih =>
    cases l with
    | nil => rw [putA]; exact fun b hb => numb_dig (digits_dig n b hb)
    | cons m l =>
      rw [putA]
      intro b hb
      rcases List.mem_append.1 hb with hb | hb
      · exact numb_dig (digits_dig n b hb)
      · rcases List.mem_cons.1 hb with rfl | hb
        · rfl
        · exact ih b hb
/-- R does not go on with a rune of numbers. -/
def NoNum (R : Bs) : Prop := ∀ b, R.head? = some b → numb b = false
theorem nums_app (X R : Bs) (hX : ∀ b ∈ X, numb b = true) (hR : NoNum R) : nums (X ++ R) = X := by
  unfold nums
  induction X with
  | nil =>
    cases R with
    | nil => rfl
    | cons b R => simp [hR b rfl]
  | cons b X ih =>
    rw [List.cons_append, List.takeWhile_cons, hX b (List.mem_cons_self ..)]
    simp only [if_true]
    rw [ih (fun c hc => hX c (List.mem_cons_of_mem _ hc))]

/-! ### Parsing -/
theorem parseF_fuel (f : Nat) : ∀ (g : Nat) (at_ : Nat) (L : Bs), L.length ≤ f → L.length ≤ g → parseF f at_ L = parseF g at_ L := by
  induction f with
  | zero =>
    intro g at_ L h _
    obtain rfl : L = [] := List.eq_nil_of_length_eq_zero (by omega)
    cases g <;> rfl
  | succ f ih =>
    intro g at_ L h hg
    cases L with
    | nil => cases g <;> rfl
    | cons b L =>
      cases g with
      | zero => simp at hg
      | succ g =>
        have hn := rune_pos (b :: L)
        simp only [List.length_cons] at h hg
        unfold parseF
        dsimp only
        split
        · exact ih g _ _ (by rw [List.length_drop, List.length_cons]; omega) (by rw [List.length_drop, List.length_cons]; omega)
        · congr 1
          exact ih g _ _ (by rw [List.length_drop, List.length_cons]; omega) (by rw [List.length_drop, List.length_cons]; omega)
/-- The entries of a text that begins at some byte. -/
def parseAt (at_ : Nat) (L : Bs) : List Ent := parseF L.length at_ L
theorem parseAt_nil (at_ : Nat) : parseAt at_ [] = [] := rfl
theorem parseAt_blank (at_ : Nat) (L : Bs) (h0 : L ≠ []) (hb : blank (rune L).1 = true) : parseAt at_ L = parseAt (at_ + (rune L).2) (L.drop (rune L).2) := by
  cases L with
  | nil => exact (h0 rfl).elim
  | cons b L =>
    have hn := rune_pos (b :: L)
    unfold parseAt
    rw [List.length_cons, parseF]
    dsimp only
    rw [if_pos hb]
    exact parseF_fuel _ _ _ _ (by rw [List.length_drop, List.length_cons]; omega) (Nat.le_refl _)
theorem parseAt_entry (at_ : Nat) (L : Bs) (h0 : L ≠ []) (hb : blank (rune L).1 = false) :
    parseAt at_ L = entOf (rune L).1 (args (nums (L.drop (rune L).2))) at_ :: parseAt (at_ + (rune L).2 + (nums (L.drop (rune L).2)).length) (L.drop ((rune L).2 + (nums (L.drop (rune L).2)).length)) := by
  cases L with
  | nil => exact (h0 rfl).elim
  | cons b L =>
    have hn := rune_pos (b :: L)
    unfold parseAt
    rw [List.length_cons, parseF]
    dsimp only
    rw [if_neg (by rw [hb]; exact Bool.false_ne_true)]
    congr 1
    exact parseF_fuel _ _ _ _ (by rw [List.length_drop, List.length_cons]; omega) (Nat.le_refl _)
def shift (d : Nat) (e : Ent) : Ent := { e with at_ := e.at_ + d }
theorem entOf_shift (r : Int) (a : Option (List Int)) (at_ d : Nat) : entOf r a (at_ + d) = shift d (entOf r a at_) := by
  unfold entOf shift
  split
  · rfl
  · cases a <;> rfl
theorem parseAt_shift (n : Nat) : ∀ (L : Bs) (at_ d : Nat), L.length ≤ n → parseAt (at_ + d) L = (parseAt at_ L).map (shift d) := by
  induction n with
  | zero =>
    intro L at_ d h
    obtain rfl : L = [] := List.eq_nil_of_length_eq_zero (by omega)
    rfl
  | succ n ih =>
    intro L at_ d h
    by_cases h0 : L = []
    · subst h0; rfl
    · have hn := rune_pos L
      have hl : 0 < L.length := List.length_pos_iff.2 h0
      cases hb : blank (rune L).1 with
      | true =>
        rw [parseAt_blank _ L h0 hb, parseAt_blank _ L h0 hb, Nat.add_right_comm]
        exact ih _ _ _ (by rw [List.length_drop]; omega)
      | false =>
        rw [parseAt_entry _ L h0 hb, parseAt_entry _ L h0 hb, List.map_cons, entOf_shift, Nat.add_right_comm at_ d, Nat.add_right_comm _ d, ih _ _ _ (by rw [List.length_drop]; omega)]
theorem utf8_pos (r : Int) : 0 < (utf8 r).length := by
  unfold utf8
  split
  · simp
  · split
    · simp
    · split <;> simp
/-- An entry that may be put. -/
structure Good (e : Ent) : Prop where
  ok : e.ok = true
  uni : Uni e.op
  fffd : e.op ≠ 65533
  blank : blank e.op = false
  numb : numb e.op = false
  args : ∀ n ∈ e.args, U64 n
theorem put1_pos (e : Ent) : put1 e ≠ [] := by
  have := utf8_pos e.op
  unfold put1
  intro h
  rw [List.append_eq_nil_iff] at h
  rw [h.1] at this
  simp at this
theorem utf8_head (r : Int) (hu : Uni r) (hn : numb r = false) (R : Bs) : NoNum (utf8 r ++ R) := by
  obtain ⟨h0, h1, h2⟩ := hu
  intro b hb
  unfold utf8 at hb
  have big : ∀ x : Int, 58 ≤ x → numb x = false := fun x hx => by
    unfold numb
    simp
    omega
  split at hb
  · simp at hb; subst hb; exact hn
  · split at hb
    · simp at hb; exact big _ (by omega)
    · split at hb
      · simp at hb; exact big _ (by omega)
      · simp at hb; exact big _ (by omega)
theorem put1_nonum (e : Ent) (he : Good e) (R : Bs) : NoNum (put1 e ++ R) := by
  unfold put1
  rw [List.append_assoc]
  exact utf8_head e.op he.uni he.numb _
/-- An entry that was put is parsed again. -/
theorem parseAt_put1 (at_ : Nat) (e : Ent) (he : Good e) (R : Bs) (hR : NoNum R) : parseAt at_ (put1 e ++ R) = { e with at_ := at_ } :: parseAt (at_ + (put1 e).length) R := by
  have hr := rune_utf8 e.op he.uni (putA e.args ++ R)
  rw [← List.append_assoc] at hr
  have h0 : put1 e ++ R ≠ [] := fun h => put1_pos e (List.append_eq_nil_iff.1 h).1
  have e1 : rune (put1 e ++ R) = (e.op, (utf8 e.op).length) := hr
  have e2 : (put1 e ++ R).drop (utf8 e.op).length = putA e.args ++ R := by
    unfold put1
    rw [List.append_assoc, List.drop_left]
  have e3 : nums (putA e.args ++ R) = putA e.args := nums_app _ _ (putA_numb _) hR
  rw [parseAt_entry at_ _ h0 (by rw [e1]; exact he.blank), e1]
  dsimp only
  rw [e2, e3, args_put _ he.args]
  have e4 : (put1 e ++ R).drop ((utf8 e.op).length + (putA e.args).length) = R := by
    have : (utf8 e.op).length + (putA e.args).length = (put1 e).length := by unfold put1; rw [List.length_append]
    rw [this, List.drop_left]
  rw [e4]
  congr 1
  · unfold entOf
    rw [he.numb]
    have := he.ok
    cases e
    simp at this ⊢
    exact this
  · unfold put1
    rw [List.length_append, Nat.add_assoc]
theorem rune_small (b : Int) (h : b < 128) (R : Bs) : rune (b :: R) = (b, 1) := by
  unfold rune
  have e : bt (b :: R) 0 = b := by simp [bt]
  dsimp only
  rw [e, if_pos h]
theorem blank_small {b : Int} (h : blank b = true) : b < 128 ∧ numb b = false := by
  unfold blank at h
  simp at h
  unfold numb
  simp
  omega
theorem parseAt_blanks (X : Bs) (hX : ∀ b ∈ X, blank b = true) (R : Bs) : ∀ at_, parseAt at_ (X ++ R) = parseAt (at_ + X.length) R := by
  induction X with
  | nil => intro at_; rfl
  | cons b X ih =>
    intro at_
    have hb := hX b (List.mem_cons_self ..)
    have hs := rune_small b (blank_small hb).1 (X ++ R)
    rw [List.cons_append, parseAt_blank at_ (b :: (X ++ R)) (by simp) (by rw [hs]; exact hb), hs]
    dsimp only
    rw [List.drop_succ_cons, List.drop_zero, ih (fun c hc => hX c (List.mem_cons_of_mem _ hc)), List.length_cons]
    congr 1
    omega
theorem noNum_blanks (X : Bs) (hX : ∀ b ∈ X, blank b = true) (R : Bs) (hR : NoNum R) : NoNum (X ++ R) := by
  cases X with
  | nil => exact hR
  | cons b X =>
    intro c hc
    simp at hc
    subst hc
    exact (blank_small (hX b (List.mem_cons_self ..))).2
/-- Entries, each with blanks behind it. -/
def laid (l : List (Ent × Bs)) : Bs := l.flatMap fun p => put1 p.1 ++ p.2
def stands (at_ : Nat) : List (Ent × Bs) → List Ent
  | [] => []
  | p :: l => { p.1 with at_ := at_ } :: stands (at_ + (put1 p.1 ++ p.2).length) l
theorem laid_nonum (l : List (Ent × Bs)) (hl : ∀ p ∈ l, Good p.1) : NoNum (laid l) := by
  cases l with
  | nil => intro b hb; simp [laid] at hb
  | cons p l =>
    unfold laid
    rw [List.flatMap_cons, List.append_assoc]
    exact put1_nonum p.1 (hl p (List.mem_cons_self ..)) _
theorem parse_laid (l : List (Ent × Bs)) (hl : ∀ p ∈ l, Good p.1) (hb : ∀ p ∈ l, ∀ b ∈ p.2, blank b = true) : ∀ at_, parseAt at_ (laid l) = stands at_ l := by
  induction l with
  | nil => intro at_; rfl
  | cons p l ih =>
    intro at_
    have h1 := laid_nonum l (fun q hq => hl q (List.mem_cons_of_mem _ hq))
    have h2 := hb p (List.mem_cons_self ..)
    show parseAt at_ ((put1 p.1 ++ p.2) ++ laid l) = _
    rw [List.append_assoc, parseAt_put1 at_ p.1 (hl p (List.mem_cons_self ..)) _ (noNum_blanks _ h2 _ h1), parseAt_blanks _ h2, ih (fun q hq => hl q (List.mem_cons_of_mem _ hq)) (fun q hq => hb q (List.mem_cons_of_mem _ hq))]
    rw [stands, List.length_append, Nat.add_assoc]
theorem nums_stop (X : Bs) (b : Int) (hb : numb b = false) (R : Bs) : nums (X ++ b :: R) = nums X := by
  unfold nums
  induction X with
  | nil => simp [hb]
  | cons c X ih =>
    rw [List.cons_append, List.takeWhile_cons, List.takeWhile_cons, ih]
theorem nums_le (X : Bs) : (nums X).length ≤ X.length := by
  unfold nums
  induction X with
  | nil => simp
  | cons c X ih =>
    rw [List.takeWhile_cons]
    split
    · simp; omega
    · simp
/-- The entries of two texts with a blank between are those of both. -/
theorem parse_parts (n : Nat) : ∀ (s t : Bs) (at_ : Nat), s.length ≤ n → parseAt at_ (s ++ 32 :: t) = parseAt at_ s ++ parseAt (at_ + s.length + 1) t := by
  induction n with
  | zero =>
    intro s t at_ h
    obtain rfl : s = [] := List.eq_nil_of_length_eq_zero (by omega)
    exact parseAt_blanks [32] (by simp [blank]) t at_
  | succ n ih =>
    intro s t at_ h
    by_cases h0 : s = []
    · subst h0
      exact parseAt_blanks [32] (by simp [blank]) t at_
    · have hl : 0 < s.length := List.length_pos_iff.2 h0
      have hr := rune_app s (32 :: t) hl (.inr (by simp [bt]))
      have hn := rune_pos s
      have hnl := rune_le s hl
      have hne : s ++ 32 :: t ≠ [] := by simp
      have hd : (s ++ 32 :: t).drop (rune s).2 = s.drop (rune s).2 ++ 32 :: t := List.drop_append_of_le_length hnl
      cases hb : blank (rune s).1 with
      | true =>
        rw [parseAt_blank _ _ hne (by rw [hr]; exact hb), parseAt_blank _ s h0 hb, hr, hd, ih _ _ _ (by rw [List.length_drop]; omega)]
        congr 2
        rw [List.length_drop]
        omega
      | false =>
        rw [parseAt_entry _ _ hne (by rw [hr]; exact hb), parseAt_entry _ s h0 hb, hr, hd, nums_stop _ 32 rfl]
        have hk := nums_le (s.drop (rune s).2)
        rw [List.length_drop] at hk
        rw [List.drop_append_of_le_length (by omega), ih _ _ _ (by rw [List.length_drop]; omega)]
        rw [List.cons_append]
        congr 3
        rw [List.length_drop]
        omega

/-! ### Each entry's own part of a text -/
theorem rune_blank (b : Int) (L : Bs) (h : blank (rune (b :: L)).1 = true) : blank b = true := by
  by_cases hb : b < 128
  · rw [rune_small b hb] at h; exact h
  · have e : bt (b :: L) 0 = b := by simp [bt]
    exfalso
    revert h
    have nb : ∀ x : Int, 128 ≤ x → ¬ blank x = true := fun x hx h => by have := (blank_small h).1; omega
    unfold rune
    dsimp only
    rw [e, if_neg hb]
    split
    · cases h1 : inn (b :: L) 1 128 191 with
      | false => exact nb _ (by simp)
      | true =>
        unfold inn at h1
        simp at h1
        exact nb _ (by simp; omega)
    · split
      · cases h1 : (inn (b :: L) 1 (lo2 b) (hi2 b) && inn (b :: L) 2 128 191) with
        | false => exact nb _ (by simp)
        | true =>
          unfold inn at h1
          simp at h1
          have h2 := lo2_ge b
          have h3 : b = 224 → lo2 b = 160 := fun e => by unfold lo2; rw [if_pos e]
          exact nb _ (by simp; omega)
      · split
        · cases h1 : (inn (b :: L) 1 (lo3 b) (hi3 b) && inn (b :: L) 2 128 191 && inn (b :: L) 3 128 191) with
          | false => exact nb _ (by simp)
          | true =>
            unfold inn at h1
            simp at h1
            have h2 := lo3_ge b
            have h3 : b = 240 → lo3 b = 144 := fun e => by unfold lo3; rw [if_pos e]
            exact nb _ (by simp; omega)
        · exact nb _ (by simp)
/-- The blanks that a text begins with. -/
def bl (L : Bs) : Bs := L.takeWhile blank
theorem bl_all (L : Bs) : ∀ b ∈ bl L, blank b = true := by
  unfold bl
  induction L with
  | nil => simp
  | cons c L ih =>
    intro b hb
    rw [List.takeWhile_cons] at hb
    split at hb
    · rcases List.mem_cons.1 hb with rfl | hb
      · assumption
      · exact ih b hb
    · simp at hb
theorem bl_app (L : Bs) : bl L ++ L.drop (bl L).length = L := by
  unfold bl
  induction L with
  | nil => rfl
  | cons c L ih =>
    rw [List.takeWhile_cons]
    split
    · simp [ih]
    · rfl
theorem bl_rest (L : Bs) : L.drop (bl L).length = [] ∨ (L.drop (bl L).length ≠ [] ∧ blank (rune (L.drop (bl L).length)).1 = false) := by
  unfold bl
  induction L with
  | nil => exact .inl rfl
  | cons c L ih =>
    rw [List.takeWhile_cons]
    split
    · simpa using ih
    · rename_i hc
      refine .inr ⟨by simp, ?_⟩
      rw [List.length_nil, List.drop_zero]
      cases h : blank (rune (c :: L)).1 with
      | false => rfl
      | true => exact (hc (rune_blank c L h)).elim
/-- Where the next entry begins, or the text ends. -/
def next (l : List Ent) (end_ : Nat) : Nat := match l with | [] => end_ | e :: _ => e.at_
theorem parse_bl (at_ : Nat) (L : Bs) : parseAt at_ L = parseAt (at_ + (bl L).length) (L.drop (bl L).length) := by
  have h := parseAt_blanks (bl L) (bl_all L) (L.drop (bl L).length) at_
  rwa [bl_app] at h
theorem entOf_at (r : Int) (a : Option (List Int)) (at_ : Nat) : (entOf r a at_).at_ = at_ := by
  unfold entOf
  split
  · rfl
  · cases a <;> rfl
theorem next_bl (at_ : Nat) (L : Bs) : next (parseAt at_ L) (at_ + L.length) = at_ + (bl L).length := by
  rw [parse_bl]
  have hl := congrArg List.length (bl_app L)
  rw [List.length_append] at hl
  rcases bl_rest L with h | ⟨h, hb⟩
  · rw [h] at hl ⊢
    simp at hl
    show at_ + L.length = _
    omega
  · rw [parseAt_entry _ _ h hb]
    exact entOf_at _ _ _
theorem nums_app_drop (L : Bs) : nums L ++ L.drop (nums L).length = L := by
  unfold nums
  induction L with
  | nil => rfl
  | cons c L ih =>
    rw [List.takeWhile_cons]
    split
    · simp [ih]
    · rfl
theorem nums_all (L : Bs) : ∀ b ∈ nums L, numb b = true := by
  unfold nums
  induction L with
  | nil => simp
  | cons c L ih =>
    intro b hb
    rw [List.takeWhile_cons] at hb
    split at hb
    · rcases List.mem_cons.1 hb with rfl | hb
      · assumption
      · exact ih b hb
    · simp at hb
theorem entOf_args (r : Int) (a : Option (List Int)) (at_ : Nat) (h : (entOf r a at_).ok = false) : (entOf r a at_).args = [] := by
  unfold entOf at *
  split at h
  · simp [*]
  · cases a <;> simp_all
theorem entOf_zero (r : Int) (a : Option (List Int)) (at_ : Nat) : entOf r a 0 = { entOf r a at_ with at_ := 0 } := by
  unfold entOf
  split
  · rfl
  · cases a <;> rfl
/-- Of the entries l of the text L, that begins at at_: each stands within, ahead of the next one; one that is not right has no numbers; its own part is parsed alone as it is. -/
def Sp (at_ : Nat) (L : Bs) : List Ent → Prop
  | [] => True
  | e :: l => at_ ≤ e.at_ ∧ e.at_ < at_ + L.length ∧ e.at_ < next l (at_ + L.length) ∧ next l (at_ + L.length) ≤ at_ + L.length ∧ (e.ok = false → e.args = []) ∧
      parseAt 0 ((L.drop (e.at_ - at_)).take (next l (at_ + L.length) - e.at_)) = [{ e with at_ := 0 }] ∧ Sp at_ L l
theorem Sp.drop {at_ : Nat} {L : Bs} {d : Nat} (hd : d ≤ L.length) : ∀ {l : List Ent}, Sp (at_ + d) (L.drop d) l → Sp at_ L l
  | [], _ => trivial
  | e :: l, ⟨h1, h2, h3, h4, h5, h6, h7⟩ => by
    have he : at_ + d + (L.drop d).length = at_ + L.length := by rw [List.length_drop]; omega
    rw [he] at h2 h3 h4 h6
    refine ⟨by omega, h2, h3, h4, h5, ?_, Sp.drop hd h7⟩
    rw [List.drop_drop, show d + (e.at_ - (at_ + d)) = e.at_ - at_ by omega] at h6
    exact h6
theorem spoils (n : Nat) : ∀ (L : Bs) (at_ : Nat), L.length ≤ n → Sp at_ L (parseAt at_ L) := by
  induction n with
  | zero =>
    intro L at_ h
    obtain rfl : L = [] := List.eq_nil_of_length_eq_zero (by omega)
    exact trivial
  | succ n ih =>
    intro L at_ h
    have hl := congrArg List.length (bl_app L)
    rw [List.length_append] at hl
    rw [parse_bl]
    refine Sp.drop (d := (bl L).length) (by omega) ?_
    rcases bl_rest L with h0 | ⟨h0, hb⟩
    · rw [h0]; exact trivial
    · generalize at_ + (bl L).length = at_
      have hL3 : (L.drop (bl L).length).length ≤ n + 1 := by rw [List.length_drop]; omega
      revert h0 hb hL3
      generalize L.drop (bl L).length = L
      intro h0 hb hL3
      have hn := rune_pos L
      have hl : 0 < L.length := List.length_pos_iff.2 h0
      have hnl := rune_le L hl
      rw [parseAt_entry at_ L h0 hb]
      generalize hr : rune L = rn at hn hnl hb
      obtain ⟨r, n'⟩ := rn
      dsimp only at hn hnl hb ⊢
      have hk := nums_le (L.drop n')
      rw [List.length_drop] at hk
      generalize hN : nums (L.drop n') = N at hk
      have hrest : L.drop (n' + N.length) = (L.drop n').drop N.length := by rw [List.drop_drop]
      have hlen : at_ + L.length = at_ + n' + N.length + (L.drop (n' + N.length)).length := by rw [List.length_drop]; omega
      have hnx : next (parseAt (at_ + n' + N.length) (L.drop (n' + N.length))) (at_ + L.length) = at_ + n' + N.length + (bl (L.drop (n' + N.length))).length := by
        rw [hlen]; exact next_bl _ _
      have hbl := congrArg List.length (bl_app (L.drop (n' + N.length)))
      rw [List.length_append] at hbl
      refine ⟨by rw [entOf_at]; omega, by rw [entOf_at]; omega, by rw [hnx, entOf_at]; omega, by rw [hnx]; omega, entOf_args _ _ _, ?_, ?_⟩
      · rw [hnx, entOf_at, Nat.sub_self, List.drop_zero]
        have hm : at_ + n' + N.length + (bl (L.drop (n' + N.length))).length - at_ = n' + (N.length + (bl (L.drop (n' + N.length))).length) := by omega
        rw [hm]
        have hrt := rune_take L (n' + (N.length + (bl (L.drop (n' + N.length))).length)) (by rw [hr]; omega)
        rw [hr] at hrt
        have hdt : (L.take (n' + (N.length + (bl (L.drop (n' + N.length))).length))).drop n' = N ++ bl (L.drop (n' + N.length)) := by
          rw [List.drop_take]
          have e : L.drop n' = N ++ (bl (L.drop (n' + N.length)) ++ (L.drop (n' + N.length)).drop (bl (L.drop (n' + N.length))).length) := by
            rw [bl_app, hrest, ← hN, nums_app_drop]
          rw [e, show n' + (N.length + (bl (L.drop (n' + N.length))).length) - n' = (N ++ bl (L.drop (n' + N.length))).length by rw [List.length_append]; omega, ← List.append_assoc, List.take_left]
        have hno : NoNum (bl (L.drop (n' + N.length))) := by
          have := noNum_blanks (bl (L.drop (n' + N.length))) (bl_all _) [] (by intro b hb; simp at hb)
          rwa [List.append_nil] at this
        have hnn : nums (N ++ bl (L.drop (n' + N.length))) = N := nums_app N _ (by rw [← hN]; exact nums_all _) hno
        have hne : L.take (n' + (N.length + (bl (L.drop (n' + N.length))).length)) ≠ [] := by
          intro e
          have := congrArg List.length e
          rw [List.length_take, List.length_nil] at this
          omega
        rw [parseAt_entry 0 _ hne (by rw [hrt]; exact hb), hrt]
        dsimp only
        rw [hdt, hnn, ← List.drop_drop, hdt, List.drop_left]
        have hp := parseAt_blanks (bl (L.drop (n' + N.length))) (bl_all _) [] (0 + n' + N.length)
        rw [List.append_nil] at hp
        rw [hp, parseAt_nil, ← entOf_zero]
      · have hi := ih (L.drop (n' + N.length)) (at_ + n' + N.length) (by rw [List.length_drop]; omega)
        rw [Nat.add_assoc] at hi ⊢
        exact Sp.drop (by omega) hi
end Go.Proofs.YtolampkhohahlaaDoor.gl
