/- Package wmem and hatstandref2: a memory as a model, and what each call does to it, over this seat's program. -/
import Derived.Test.YtkhhkdkbckdehaaFrame
import Derived.Handy
import Derived.Deep.RegionHeld3
import Derived.Deep.RegionLaw
namespace Go.Proofs.Ytkhhkdkbckdehaa.wm
open Go.ChangeShapes Go.WideShapes Go.ChangeAt Go.RowKit frame lift
set_option linter.unusedVariables false

/-- One access: a Load, a Store, a Swap that was done, one that was not. -/
inductive Acc
  | ld (a w : Int) | st (a o n : Int) | sw (a o n : Int) | no (a w : Int)
/-- A memory. -/
structure St where
  ws : List Int
  ns : List Acc
def inB (S : St) (a : Int) : Bool := decide (0 ≤ a) && decide (a < S.ws.length)
def at_ (S : St) (a : Int) : Int := nth S.ws a.toNat
def ldV (S : St) (a : Int) : Int := bif inB S a then at_ S a else 0
def acE (S : St) (a : Int) : Int := bif inB S a then 0 else 2
def ldS (S : St) (a : Int) : St := bif inB S a then ⟨S.ws, S.ns ++ [.ld a (at_ S a)]⟩ else S
def stS (S : St) (a v : Int) : St := bif inB S a then ⟨S.ws.set a.toNat v, S.ns ++ [.st a (at_ S a) v]⟩ else S
def swV (S : St) (a o : Int) : Bool := inB S a && (at_ S a == o)
def swS (S : St) (a o n : Int) : St := bif inB S a then (bif at_ S a == o then ⟨S.ws.set a.toNat n, S.ns ++ [.sw a o n]⟩ else ⟨S.ws, S.ns ++ [.no a (at_ S a)]⟩) else S

/-- What the memory notes; what the document's notes. -/
def enc1 : Acc → Value
  | .ld a w => .iface 71 (.agg #[.int .i64 a, .int .u64 w])
  | .st a o n => .iface 72 (.agg #[.int .i64 a, .int .u64 o, .int .u64 n])
  | .sw a o n => .iface 70 (.agg #[.int .i64 a, .int .u64 o, .int .u64 n])
  | .no a w => .iface 68 (.agg #[.int .i64 a, .int .u64 w])
def enc5 : Acc → List Value
  | .ld a w => [.int .u8 108, .int .i64 a, .int .u64 w, .int .u64 w, .bool true]
  | .st a o n => [.int .u8 115, .int .i64 a, .int .u64 o, .int .u64 n, .bool true]
  | .sw a o n => [.int .u8 99, .int .i64 a, .int .u64 o, .int .u64 n, .bool true]
  | .no a w => [.int .u8 99, .int .i64 a, .int .u64 w, .int .u64 w, .bool false]
def MemAt (w : World) (F : Nat → Prop) (b : Nat) (S : St) : Prop := Two w F b 62 33 20 1 (S.ws.map (Value.int .u64)) S.ns.length (S.ns.map enc1)
def RefAt (w : World) (F : Nat → Prop) (b : Nat) (S : St) : Prop := Two w F b 40 33 63 5 (S.ws.map (Value.int .u64)) S.ns.length (S.ns.flatMap enc5)
def Fits (S : St) : Prop := S.ws.length ≤ 1024 ∧ S.ns.length ≤ 1000000
theorem info20 : (Try.prog.info? 20).map (fun i => (i.zero, i.size, i.bytes)) = some (some .nilIface, 1, 16) := by kernel_rfl
theorem info5 : (Try.prog.info? 63).map (fun i => (i.zero, i.size, i.bytes)) = some (some (.agg #[.int .u8 0, .int .i64 0, .int .u64 0, .int .u64 0, .bool false]), 5, 40) := by kernel_rfl

theorem has_any {w : World} {F : Nat → Prop} {b : Nat} {S : St} (h : MemAt w F b S) (a : Int) :
    Calls Try.prog 28 #[.pointer (some ⟨b, 0, none⟩), .int .i64 a] w fun e w' => e = .returned (.bool (inB S a)) ∧ w = w' := by
  obtain ⟨v1, v2, h⟩ := h
  obtain ⟨a1, c1, rfl, hn1, hm1⟩ := h.r1.slice
  have hc0 := h.c0
  have hlen : (S.ws.map (Value.int .u64)).length = S.ws.length := List.length_map ..
  rw [hlen] at hc0 hn1
  unfold maxLen at hm1
  clear h hlen
  unfold inB
  by_cases h0 : 0 ≤ a
  · by_cases h1 : a < S.ws.length
    · go_enter Try.func28, Try.ntmps28
      go_wp2_with fail
      go_ret
      exact ⟨by simp [h0, h1], rfl⟩
    · go_enter Try.func28, Try.ntmps28
      go_wp2_with fail
      go_ret
      exact ⟨by simp [h1], rfl⟩
  · go_enter Try.func28, Try.ntmps28
    go_wp2_with fail
    go_ret
    exact ⟨by simp; omega, rfl⟩

theorem enc1_iface (n : Acc) : ∃ t v, enc1 n = .iface t v := by cases n <;> exact ⟨_, _, rfl⟩
theorem gr_set (F : Nat → Prop) (w w1 : World) (p : Addr) (u : Value) : Gr F w (w1.setCell p u) = Gr F w w1 := by unfold Gr; simp [World.setCell]
theorem mem_noted {w w1 : World} {F : Nat → Prop} {b : Nat} {S : St} {n : Acc} {x v1 u : Value} {p : Addr} (hx : enc1 n = x)
    (h : TwoV (w1.setCell p u) (Gr F w w1) b 62 33 20 1 v1 u (S.ws.map (Value.int .u64)) (S.ns.length + 1) (S.ns.map enc1 ++ [x])) :
    MemAt (w1.setCell p u) (Gr F w (w1.setCell p u)) b ⟨S.ws, S.ns ++ [n]⟩ := by
  rw [gr_set]
  exact ⟨v1, u, by simpa [← hx] using h⟩
theorem MemAt.gr {w : World} {F : Nat → Prop} {b : Nat} {S : St} (h : MemAt w F b S) : MemAt w (Gr F w w) b S := by
  obtain ⟨v1, v2, h⟩ := h
  exact ⟨v1, v2, h.mono (fun _ hk => .inl hk) (fun k hk => Gr.lt h.lt (Nat.le_refl _) hk)⟩
theorem note_any {w : World} {F : Nat → Prop} {b : Nat} {S : St} (h : MemAt w F b S) (hf : S.ns.length ≤ 1000000) (n : Acc) (t : TypeId) (v : Value) (hx : enc1 n = .iface t v) :
    Calls Try.prog 29 #[.pointer (some ⟨b, 0, none⟩), .iface t v] w fun e w' => e = .returned (.tuple #[]) ∧ MemAt w' (Gr F w w') b ⟨S.ws, S.ns ++ [n]⟩ ∧ Chg F w w' := by
  obtain ⟨v1, v2, h⟩ := h
  have hc1 := h.c1
  have H := Lib.hid h; clear h
  have HX := Lib.hid hx; clear hx
  obtain ⟨i, hi, hz0, hz1, hz2⟩ := info_parts info20
  have H1 := Lib.hid hi; clear hi
  have H2 := Lib.hid hz0; have H3 := Lib.hid hz1; have H4 := Lib.hid hz2; clear hz0 hz1 hz2
  go_enter Try.func29, Try.ntmps29
  go_wp2_with ((at_builtin; go_loud (refine wpList_append_lies _ rfl _ _ 60 rfl 0 20 i .nilIface 1 16 Try.underlying60 H1.out H2.out H3.out H4.out rfl (by decide) v2 S.ns.length _ rfl (H.out.r2.1.alloc _) ⟨w.heap.size, 0, none⟩ 1 1 [.iface t v] rfl rfl ?c1 ?c2 (by decide) ?c3 ?c4 (by simp) (w.heap.size + 1) (by simp) ?_)))
  case c1 =>
    intro j u hj
    match j, hj with
    | 0, hj =>
      simp at hj
      subst hj
      exact cell_of_row _ _ 0 _ _ _ (heap_alloc_new w _)
  case c2 => intro u hu; simp at hu; subst hu; rfl
  case c3 => simp only [maxLen]; omega
  case c4 => omega
  intro g cap w1 hown hgrow hat hlt
  have hbw : Below w.heap.size w (w.alloc (Obj.cells #[.iface t v] 20)) := (Below.refl _ _).alloc (Nat.le_refl _) _
  obtain ⟨hc1', hf1'⟩ := H.out.mid hbw (by decide) hgrow 1
  rw [hc1] at hc1'
  have HA := Lib.hid (H.out.noted hbw (by decide) (by decide) (by decide) hown hgrow (by simpa using hat) hlt)
  clear hown hgrow hat hbw
  go_wp2_with fail
  go_returns
  exact ⟨rfl, mem_noted HX.out HA.out.1, HA.out.2⟩

theorem inB_nat {S : St} {a : Int} (h : inB S a = true) : ∃ k : Nat, a = k ∧ k < S.ws.length := by
  simp [inB] at h
  exact ⟨a.toNat, by omega, by omega⟩
/-- What the walk needs of the words: the slice, and the cell at a place. -/
theorem words_at {w : World} {F : Nat → Prop} {b : Nat} {T e2 : TypeId} {s2 : Nat} {v1 v2 : Value} {ws : List Int} {n2 : Nat} {l2 : List Value} (h : TwoV w F b T 33 e2 s2 v1 v2 (ws.map (Value.int .u64)) n2 l2) (k : Nat) (hk : k < ws.length) :
    ∃ g cap, v1 = .slice (some ⟨g, 0, none⟩) ws.length cap ∧ F g ∧ ws.length ≤ cap ∧ cap ≤ maxLen ∧ w.cell? ⟨g, k, none⟩ = some (.int .u64 (nth ws k)) ∧ w.frozen? ⟨g, k, none⟩ = false := by
  have hl : (ws.map (Value.int .u64)).length = ws.length := List.length_map ..
  obtain ⟨g, cap, hv, hg, _, h1, h2, h3, h4⟩ := h.r1.at_ (by omega)
  rw [hl] at hv h1
  refine ⟨g, cap, hv, hg, h1, h2, ?_, h4 k⟩
  rw [h3 k (by omega)]
  simp [nth, List.getD, hk]
theorem load_any {w : World} {F : Nat → Prop} {b : Nat} {S : St} (h : MemAt w F b S) (hf : S.ns.length ≤ 1000000) (a : Int) :
    Calls Try.prog 21 #[.pointer (some ⟨b, 0, none⟩), .int .i64 a] w fun e w' => e = .returned (.tuple #[.int .u64 (ldV S a), .int .i64 (acE S a)]) ∧ MemAt w' (Gr F w w') b (ldS S a) ∧ Chg F w w' := by
  have HM := Lib.hid h; clear h
  cases hB : inB S a with
  | false =>
    have H1 : Hid (ldV S a = 0 ∧ acE S a = 2 ∧ ldS S a = S) := by simp [Hid, ldV, acE, ldS, hB]
    go_enter Try.func21, Try.ntmps21
    go_wp2_with fail
    refine (has_any HM.out a).mono ?_
    rintro e w' ⟨rfl, rfl⟩
    go_wp2_with fail
    go_ret2
    rw [H1.out.1, H1.out.2.1, H1.out.2.2]
    exact ⟨rfl, HM.out.gr, Chg.refl _ _⟩
  | true =>
    have H1 : Hid (ldV S a = at_ S a ∧ acE S a = 0 ∧ ldS S a = ⟨S.ws, S.ns ++ [.ld a (at_ S a)]⟩) := by simp [Hid, ldV, acE, ldS, hB]
    obtain ⟨k, rfl, hk⟩ := inB_nat hB
    obtain ⟨v1, v2, hT⟩ := HM.out
    obtain ⟨g, cap, rfl, hg, hn, hm, hcell, hfr⟩ := words_at hT k hk
    have hc0 := hT.c0
    clear hT
    unfold maxLen at hm
    have hi1 : (0 : Int) ≤ (k : Int) := by omega
    have hi2 : (k : Int) < (S.ws.length : Int) := by omega
    go_enter Try.func21, Try.ntmps21
    go_wp2_with fail
    refine (has_any HM.out _).mono ?_
    rintro e w' ⟨rfl, rfl⟩
    go_wp2_with fail
    refine (note_any HM.out hf (.ld k (nth S.ws k)) _ _ rfl).mono ?_
    rintro e w1 ⟨rfl, hm1, hch⟩
    go_wp2_with fail
    go_ret2
    rw [H1.out.1, H1.out.2.1, H1.out.2.2]
    exact ⟨rfl, hm1, hch⟩
theorem mem_set {w w1 : World} {F : Nat → Prop} {b g n cap : Nat} {v2 : Value} {ws : List Int} {ns : List Acc} {k : Nat} {v : Int} (hc : Chg F w w1)
    (h : TwoV w1 (Gr F w w1) b 62 33 20 1 (.slice (some ⟨g, 0, none⟩) n cap) v2 (ws.map (Value.int .u64)) ns.length (ns.map enc1)) :
    MemAt (w1.setCell ⟨g, k, none⟩ (.int .u64 v)) (Gr F w (w1.setCell ⟨g, k, none⟩ (.int .u64 v))) b ⟨ws.set k v, ns⟩ ∧ Chg F w (w1.setCell ⟨g, k, none⟩ (.int .u64 v)) := by
  obtain ⟨h1, h2⟩ := h.stored (by decide) (by decide) k (.int .u64 v)
  rw [gr_set]
  exact ⟨⟨_, v2, by simpa [List.map_set] using h1⟩, hc.trans h2⟩
theorem store_any {w : World} {F : Nat → Prop} {b : Nat} {S : St} (h : MemAt w F b S) (hf : S.ns.length ≤ 1000000) (a v : Int) :
    Calls Try.prog 22 #[.pointer (some ⟨b, 0, none⟩), .int .i64 a, .int .u64 v] w fun e w' => e = .returned (.int .i64 (acE S a)) ∧ MemAt w' (Gr F w w') b (stS S a v) ∧ Chg F w w' := by
  have HM := Lib.hid h; clear h
  cases hB : inB S a with
  | false =>
    have H1 : Hid (acE S a = 2 ∧ stS S a v = S) := by simp [Hid, acE, stS, hB]
    go_enter Try.func22, Try.ntmps22
    go_wp2_with fail
    refine (has_any HM.out a).mono ?_
    rintro e w' ⟨rfl, rfl⟩
    go_wp2_with fail
    go_ret
    rw [H1.out.1, H1.out.2]
    exact ⟨rfl, HM.out.gr, Chg.refl _ _⟩
  | true =>
    have H1 : Hid (acE S a = 0 ∧ stS S a v = ⟨S.ws.set a.toNat v, S.ns ++ [.st a (at_ S a) v]⟩) := by simp [Hid, acE, stS, hB]
    obtain ⟨k, rfl, hk⟩ := inB_nat hB
    obtain ⟨v1, v2, hT⟩ := HM.out
    obtain ⟨g, cap, rfl, hg, hn, hm, hcell, hfr⟩ := words_at hT k hk
    have hc0 := hT.c0
    clear hT
    unfold maxLen at hm
    have hi1 : (0 : Int) ≤ (k : Int) := by omega
    have hi2 : (k : Int) < (S.ws.length : Int) := by omega
    go_enter Try.func22, Try.ntmps22
    go_wp2_with fail
    refine (has_any HM.out _).mono ?_
    rintro e w' ⟨rfl, rfl⟩
    go_wp2_with fail
    refine (note_any HM.out hf (.st k (nth S.ws k) v) _ _ rfl).mono ?_
    rintro e w1 ⟨rfl, ⟨u1, u2, hT1⟩, hch⟩
    obtain ⟨g1, cap1, rfl, hg1, hn1, hm1, hcell1, hfr1⟩ := words_at hT1 k hk
    have hc01 := hT1.c0
    clear hcell hfr hc0
    unfold maxLen at hm1
    have HT := Lib.hid (mem_set (k := k) (v := v) hch hT1)
    clear hT1 hch
    go_wp2_with fail
    go_ret
    rw [H1.out.1, H1.out.2]
    exact ⟨rfl, HT.out⟩
theorem swap_any {w : World} {F : Nat → Prop} {b : Nat} {S : St} (h : MemAt w F b S) (hf : S.ns.length ≤ 1000000) (a o v : Int) :
    Calls Try.prog 20 #[.pointer (some ⟨b, 0, none⟩), .int .i64 a, .int .u64 o, .int .u64 v] w fun e w' => e = .returned (.tuple #[.bool (swV S a o), .int .i64 (acE S a)]) ∧ MemAt w' (Gr F w w') b (swS S a o v) ∧ Chg F w w' := by
  have HM := Lib.hid h; clear h
  cases hB : inB S a with
  | false =>
    have H1 : Hid (swV S a o = false ∧ acE S a = 2 ∧ swS S a o v = S) := by simp [Hid, swV, acE, swS, hB]
    go_enter Try.func20, Try.ntmps20
    go_wp2_with fail
    refine (has_any HM.out a).mono ?_
    rintro e w' ⟨rfl, rfl⟩
    go_wp2_with fail
    go_ret2
    rw [H1.out.1, H1.out.2.1, H1.out.2.2]
    exact ⟨rfl, HM.out.gr, Chg.refl _ _⟩
  | true =>
    cases hE : (at_ S a == o) with
    | false =>
      have H1 : Hid (swV S a o = false ∧ acE S a = 0 ∧ swS S a o v = ⟨S.ws, S.ns ++ [.no a (at_ S a)]⟩) := by simp [Hid, swV, acE, swS, hB, hE]
      obtain ⟨k, rfl, hk⟩ := inB_nat hB
      have hE2 : (nth S.ws k != o) = true := by simpa [at_] using hE
      obtain ⟨v1, v2, hT⟩ := HM.out
      obtain ⟨g, cap, rfl, hg, hn, hm, hcell, hfr⟩ := words_at hT k hk
      have hc0 := hT.c0
      clear hT hE
      unfold maxLen at hm
      have hi1 : (0 : Int) ≤ (k : Int) := by omega
      have hi2 : (k : Int) < (S.ws.length : Int) := by omega
      go_enter Try.func20, Try.ntmps20
      go_wp2_with fail
      refine (has_any HM.out _).mono ?_
      rintro e w' ⟨rfl, rfl⟩
      go_wp2_with fail
      refine (note_any HM.out hf (.no k (nth S.ws k)) _ _ rfl).mono ?_
      rintro e w1 ⟨rfl, hm1, hch⟩
      go_wp2_with fail
      go_ret2
      rw [H1.out.1, H1.out.2.1, H1.out.2.2]
      exact ⟨rfl, hm1, hch⟩
    | true =>
      obtain rfl : at_ S a = o := by simpa using hE
      have H1 : Hid (swV S a (at_ S a) = true ∧ acE S a = 0 ∧ swS S a (at_ S a) v = ⟨S.ws.set a.toNat v, S.ns ++ [.sw a (at_ S a) v]⟩) := by simp [Hid, swV, acE, swS, hB]
      obtain ⟨k, rfl, hk⟩ := inB_nat hB
      obtain ⟨v1, v2, hT⟩ := HM.out
      obtain ⟨g, cap, rfl, hg, hn, hm, hcell, hfr⟩ := words_at hT k hk
      have hc0 := hT.c0
      clear hT hE
      have hat : at_ S k = nth S.ws k := rfl
      rw [hat] at H1 ⊢
      clear hat
      unfold maxLen at hm
      have hi1 : (0 : Int) ≤ (k : Int) := by omega
      have hi2 : (k : Int) < (S.ws.length : Int) := by omega
      go_enter Try.func20, Try.ntmps20
      go_wp2_with fail
      refine (has_any HM.out _).mono ?_
      rintro e w' ⟨rfl, rfl⟩
      go_wp2_with fail
      refine (note_any HM.out hf (.sw k (nth S.ws k) v) _ _ rfl).mono ?_
      rintro e w1 ⟨rfl, ⟨u1, u2, hT1⟩, hch⟩
      obtain ⟨g1, cap1, rfl, hg1, hn1, hm1, hcell1, hfr1⟩ := words_at hT1 k hk
      have hc01 := hT1.c0
      clear hcell hfr hc0
      unfold maxLen at hm1
      have HT := Lib.hid (mem_set (k := k) (v := v) hch hT1)
      clear hT1 hch
      go_wp2_with fail
      go_ret2
      rw [H1.out.1, H1.out.2.1, H1.out.2.2]
      exact ⟨rfl, HT.out⟩
/-! ### The document's memory -/
theorem enc5_len (n : Acc) : (enc5 n).length = 5 := by cases n <;> rfl
theorem enc5_one (n : Acc) : ∀ u ∈ enc5 n, u.oneCell' = true := by cases n <;> simp [enc5, Value.oneCell']
theorem news5 (w : World) {n : Acc} (l : List Value) (hl : l = enc5 n) : ∀ j u, (enc5 n)[j]? = some u → (w.alloc (Obj.cells l.toArray 63)).cell? ((⟨w.heap.size, 0, none⟩ : Addr).add j) = some u := by
  subst hl
  exact fun j u hu => World.news_of_block (heap_alloc_new w _) j u (by simpa using hu)
theorem flat5_len (l : List Acc) : (l.flatMap enc5).length = l.length * 5 := by
  induction l with
  | nil => rfl
  | cons a l ih => simp [enc5_len, ih]; omega
theorem ref_noted {w w1 : World} {F : Nat → Prop} {b : Nat} {S : St} {n : Acc} {v1 u : Value} {p : Addr}
    (h : TwoV (w1.setCell p u) (Gr F w w1) b 40 33 63 5 v1 u (S.ws.map (Value.int .u64)) (S.ns.length + 1) (S.ns.flatMap enc5 ++ enc5 n)) :
    RefAt (w1.setCell p u) (Gr F w (w1.setCell p u)) b ⟨S.ws, S.ns ++ [n]⟩ := by
  rw [gr_set]
  exact ⟨v1, u, by simpa using h⟩
theorem RefAt.gr {w : World} {F : Nat → Prop} {b : Nat} {S : St} (h : RefAt w F b S) : RefAt w (Gr F w w) b S := by
  obtain ⟨v1, v2, h⟩ := h
  exact ⟨v1, v2, h.mono (fun _ hk => .inl hk) (fun k hk => Gr.lt h.lt (Nat.le_refl _) hk)⟩
theorem ref_set {w w1 : World} {F : Nat → Prop} {b g n cap : Nat} {v2 : Value} {ws : List Int} {ns : List Acc} {k : Nat} {v : Int} (hc : Chg F w w1)
    (h : TwoV w1 (Gr F w w1) b 40 33 63 5 (.slice (some ⟨g, 0, none⟩) n cap) v2 (ws.map (Value.int .u64)) ns.length (ns.flatMap enc5)) :
    RefAt (w1.setCell ⟨g, k, none⟩ (.int .u64 v)) (Gr F w (w1.setCell ⟨g, k, none⟩ (.int .u64 v))) b ⟨ws.set k v, ns⟩ ∧ Chg F w (w1.setCell ⟨g, k, none⟩ (.int .u64 v)) := by
  obtain ⟨h1, h2⟩ := h.stored (by decide) (by decide) k (.int .u64 v)
  rw [gr_set]
  exact ⟨⟨_, v2, by simpa [List.map_set] using h1⟩, hc.trans h2⟩
theorem ref_stored {w w1 : World} {F : Nat → Prop} {b g m cap : Nat} {S : St} {n : Acc} {u : Value} {p : Addr} {k : Nat} {v : Int}
    (h : TwoV (w1.setCell p u) (Gr F w w1) b 40 33 63 5 (.slice (some ⟨g, 0, none⟩) m cap) u (S.ws.map (Value.int .u64)) (S.ns.length + 1) (S.ns.flatMap enc5 ++ enc5 n)) (hc : Chg F w (w1.setCell p u)) :
    RefAt ((w1.setCell p u).setCell ⟨g, k, none⟩ (.int .u64 v)) (Gr F w ((w1.setCell p u).setCell ⟨g, k, none⟩ (.int .u64 v))) b ⟨S.ws.set k v, S.ns ++ [n]⟩ ∧ Chg F w ((w1.setCell p u).setCell ⟨g, k, none⟩ (.int .u64 v)) := by
  rw [← gr_set F w w1 p u] at h
  exact ref_set hc (ns := S.ns ++ [n]) (by simpa using h)
set_option maxHeartbeats 1000000 in
theorem ref_load_any {w : World} {F : Nat → Prop} {b : Nat} {S : St} (h : RefAt w F b S) (hf : S.ns.length ≤ 1000000) (a : Int) :
    Calls Try.prog 24 #[.pointer (some ⟨b, 0, none⟩), .int .i64 a] w fun e w' => e = .returned (.tuple #[.int .u64 (ldV S a), .int .i64 (acE S a)]) ∧ RefAt w' (Gr F w w') b (ldS S a) ∧ Chg F w w' := by
  obtain ⟨v1, v2, hT⟩ := h
  obtain ⟨a1, c1, rfl, hn1, hm1⟩ := hT.r1.slice
  have hc0 := hT.c0
  have hc1 := hT.c1
  have hlen : (S.ws.map (Value.int .u64)).length = S.ws.length := List.length_map ..
  rw [hlen] at hc0 hn1
  clear hlen
  unfold maxLen at hm1
  cases hB : inB S a with
  | false =>
    have HT := Lib.hid hT
    clear hT hc1
    have H1 : Hid (ldV S a = 0 ∧ acE S a = 2 ∧ ldS S a = S) := by simp [Hid, ldV, acE, ldS, hB]
    have hq : a < 0 ∨ (0 ≤ a ∧ S.ws.length ≤ a) := by simp [inB] at hB; omega
    clear hB
    rcases hq with hq | ⟨hq, hq'⟩ <;>
    · go_enter Try.func24, Try.ntmps24
      go_wp2_with fail
      go_ret2
      rw [H1.out.1, H1.out.2.1, H1.out.2.2]
      exact ⟨rfl, RefAt.gr ⟨_, _, HT.out⟩, Chg.refl _ _⟩
  | true =>
    have H1 : Hid (ldV S a = at_ S a ∧ acE S a = 0 ∧ ldS S a = ⟨S.ws, S.ns ++ [.ld a (at_ S a)]⟩) := by simp [Hid, ldV, acE, ldS, hB]
    obtain ⟨k, rfl, hk⟩ := inB_nat hB
    obtain ⟨g, cap, hv, hg, hn, hm, hcell, hfr⟩ := words_at hT k hk
    simp only [Value.slice.injEq] at hv
    obtain ⟨rfl, _, rfl⟩ := hv
    have HT := Lib.hid hT
    clear hT hB
    have hi1 : (0 : Int) ≤ (k : Int) := by omega
    have hi2 : (k : Int) < (S.ws.length : Int) := by omega
    obtain ⟨i, hi, hz0, hz1, hz2⟩ := info_parts info5
    have J1 := Lib.hid hi; have J2 := Lib.hid hz0; have J3 := Lib.hid hz1; have J4 := Lib.hid hz2; clear hi hz0 hz1 hz2
    · go_enter Try.func24, Try.ntmps24
      go_wp2_with ((at_builtin; refine wpList_append_lies _ rfl _ _ 38 rfl 0 63 i _ 5 40 Try.underlying38 J1.out J2.out J3.out J4.out rfl (by decide) v2 S.ns.length _ rfl (HT.out.r2.1.alloc _) ⟨w.heap.size, 0, none⟩ 1 1 (enc5 (.ld k (nth S.ws k))) rfl rfl (news5 w _ rfl) (enc5_one _) (by decide) ?c3 ?c4 (by simp) (w.heap.size + 1) (by simp) ?_))
      case c3 => simp only [maxLen]; omega
      case c4 => omega
      intro g9 cap9 w1 hown hgrow hat hlt
      have hbw : Below w.heap.size w (w.alloc (Obj.cells (enc5 (.ld k (nth S.ws k))).toArray 63)) := (Below.refl _ _).alloc (Nat.le_refl _) _
      obtain ⟨hc1', hf1'⟩ := HT.out.mid hbw (by decide) hgrow 1
      rw [hc1] at hc1'
      have HA := Lib.hid (HT.out.noted hbw (by decide) (by decide) (by decide) hown hgrow (by simpa using hat) hlt)
      clear hown hgrow hat hbw
      go_wp2_with fail
      go_ret2
      rw [H1.out.1, H1.out.2.1, H1.out.2.2]
      exact ⟨rfl, ref_noted HA.out.1, HA.out.2⟩
set_option maxHeartbeats 1000000 in
theorem ref_swap_any {w : World} {F : Nat → Prop} {b : Nat} {S : St} (h : RefAt w F b S) (hf : S.ns.length ≤ 1000000) (a o v : Int) :
    Calls Try.prog 26 #[.pointer (some ⟨b, 0, none⟩), .int .i64 a, .int .u64 o, .int .u64 v] w fun e w' => e = .returned (.tuple #[.bool (swV S a o), .int .i64 (acE S a)]) ∧ RefAt w' (Gr F w w') b (swS S a o v) ∧ Chg F w w' := by
  obtain ⟨v1, v2, hT⟩ := h
  obtain ⟨a1, c1, rfl, hn1, hm1⟩ := hT.r1.slice
  have hc0 := hT.c0
  have hc1 := hT.c1
  have hlen : (S.ws.map (Value.int .u64)).length = S.ws.length := List.length_map ..
  rw [hlen] at hc0 hn1
  clear hlen
  unfold maxLen at hm1
  cases hB : inB S a with
  | false =>
    have HT := Lib.hid hT
    clear hT hc1
    have H1 : Hid (swV S a o = false ∧ acE S a = 2 ∧ swS S a o v = S) := by simp [Hid, swV, acE, swS, hB]
    have hq : a < 0 ∨ (0 ≤ a ∧ S.ws.length ≤ a) := by simp [inB] at hB; omega
    clear hB
    rcases hq with hq | ⟨hq, hq'⟩ <;>
    · go_enter Try.func26, Try.ntmps26
      go_wp2_with fail
      go_ret2
      rw [H1.out.1, H1.out.2.1, H1.out.2.2]
      exact ⟨rfl, RefAt.gr ⟨_, _, HT.out⟩, Chg.refl _ _⟩
  | true =>
   cases hE : (at_ S a == o) with
   | false =>
    have H1 : Hid (swV S a o = false ∧ acE S a = 0 ∧ swS S a o v = ⟨S.ws, S.ns ++ [.no a (at_ S a)]⟩) := by simp [Hid, swV, acE, swS, hB, hE]
    obtain ⟨k, rfl, hk⟩ := inB_nat hB
    have hE2 : (nth S.ws k != o) = true := by simpa [at_] using hE
    clear hB hE
    obtain ⟨g, cap, hv, hg, hn, hm, hcell, hfr⟩ := words_at hT k hk
    simp only [Value.slice.injEq] at hv
    obtain ⟨rfl, _, rfl⟩ := hv
    have HT := Lib.hid hT
    clear hT
    have hi1 : (0 : Int) ≤ (k : Int) := by omega
    have hi2 : (k : Int) < (S.ws.length : Int) := by omega
    obtain ⟨i, hi, hz0, hz1, hz2⟩ := info_parts info5
    have J1 := Lib.hid hi; have J2 := Lib.hid hz0; have J3 := Lib.hid hz1; have J4 := Lib.hid hz2; clear hi hz0 hz1 hz2
    · go_enter Try.func26, Try.ntmps26
      go_wp2_with ((at_builtin; refine wpList_append_lies _ rfl _ _ 38 rfl 0 63 i _ 5 40 Try.underlying38 J1.out J2.out J3.out J4.out rfl (by decide) v2 S.ns.length _ rfl (HT.out.r2.1.alloc _) ⟨w.heap.size, 0, none⟩ 1 1 (enc5 (.no k (nth S.ws k))) rfl rfl (news5 w _ rfl) (enc5_one _) (by decide) ?c3 ?c4 (by simp) (w.heap.size + 1) (by simp) ?_))
      case c3 => simp only [maxLen]; omega
      case c4 => omega
      intro g9 cap9 w1 hown hgrow hat hlt
      have hbw : Below w.heap.size w (w.alloc (Obj.cells (enc5 (.no k (nth S.ws k))).toArray 63)) := (Below.refl _ _).alloc (Nat.le_refl _) _
      obtain ⟨hc1', hf1'⟩ := HT.out.mid hbw (by decide) hgrow 1
      rw [hc1] at hc1'
      have HA := Lib.hid (HT.out.noted hbw (by decide) (by decide) (by decide) hown hgrow (by simpa using hat) hlt)
      clear hown hgrow hat hbw
      go_wp2_with fail
      go_ret2
      rw [H1.out.1, H1.out.2.1, H1.out.2.2]
      exact ⟨rfl, ref_noted HA.out.1, HA.out.2⟩
   | true =>
    obtain rfl : at_ S a = o := by simpa using hE
    have H1 : Hid (swV S a (at_ S a) = true ∧ acE S a = 0 ∧ swS S a (at_ S a) v = ⟨S.ws.set a.toNat v, S.ns ++ [.sw a (at_ S a) v]⟩) := by simp [Hid, swV, acE, swS, hB]
    obtain ⟨k, rfl, hk⟩ := inB_nat hB
    have hat : at_ S k = nth S.ws k := rfl
    rw [hat] at H1 ⊢
    clear hB hE hat
    obtain ⟨g, cap, hv, hg, hn, hm, hcell, hfr⟩ := words_at hT k hk
    simp only [Value.slice.injEq] at hv
    obtain ⟨rfl, _, rfl⟩ := hv
    have HT := Lib.hid hT
    clear hT
    have hi1 : (0 : Int) ≤ (k : Int) := by omega
    have hi2 : (k : Int) < (S.ws.length : Int) := by omega
    obtain ⟨i, hi, hz0, hz1, hz2⟩ := info_parts info5
    have J1 := Lib.hid hi; have J2 := Lib.hid hz0; have J3 := Lib.hid hz1; have J4 := Lib.hid hz2; clear hi hz0 hz1 hz2
    · go_enter Try.func26, Try.ntmps26
      go_wp2_with ((at_builtin; refine wpList_append_lies _ rfl _ _ 38 rfl 0 63 i _ 5 40 Try.underlying38 J1.out J2.out J3.out J4.out rfl (by decide) v2 S.ns.length _ rfl (HT.out.r2.1.alloc _) ⟨w.heap.size, 0, none⟩ 1 1 (enc5 (.sw k (nth S.ws k) v)) rfl rfl (news5 w _ rfl) (enc5_one _) (by decide) ?c3 ?c4 (by simp) (w.heap.size + 1) (by simp) ?_))
      case c3 => simp only [maxLen]; omega
      case c4 => omega
      intro g9 cap9 w1 hown hgrow hat hlt
      have hbw : Below w.heap.size w (w.alloc (Obj.cells (enc5 (.sw k (nth S.ws k) v)).toArray 63)) := (Below.refl _ _).alloc (Nat.le_refl _) _
      obtain ⟨hc1', hf1'⟩ := HT.out.mid hbw (by decide) hgrow 1
      rw [hc1] at hc1'
      have hc0' := (HT.out.mid hbw (by decide) hgrow 0).1
      rw [hc0] at hc0'
      obtain ⟨hcell', hfr', hbg⟩ := HT.out.mid1 hbw (by decide) (by decide) hgrow k
      rw [hcell] at hcell'
      have HA := Lib.hid (HT.out.noted hbw (by decide) (by decide) (by decide) hown hgrow (by simpa using hat) hlt)
      clear hown hgrow hat hbw
      go_wp2_with fail
      go_ret2
      rw [H1.out.1, H1.out.2.1, H1.out.2.2]
      exact ⟨rfl, ref_stored HA.out.1 HA.out.2⟩
set_option maxHeartbeats 1000000 in
theorem ref_store_any {w : World} {F : Nat → Prop} {b : Nat} {S : St} (h : RefAt w F b S) (hf : S.ns.length ≤ 1000000) (a v : Int) :
    Calls Try.prog 25 #[.pointer (some ⟨b, 0, none⟩), .int .i64 a, .int .u64 v] w fun e w' => e = .returned (.int .i64 (acE S a)) ∧ RefAt w' (Gr F w w') b (stS S a v) ∧ Chg F w w' := by
  obtain ⟨v1, v2, hT⟩ := h
  obtain ⟨a1, c1, rfl, hn1, hm1⟩ := hT.r1.slice
  have hc0 := hT.c0
  have hc1 := hT.c1
  have hlen : (S.ws.map (Value.int .u64)).length = S.ws.length := List.length_map ..
  rw [hlen] at hc0 hn1
  clear hlen
  unfold maxLen at hm1
  cases hB : inB S a with
  | false =>
    have HT := Lib.hid hT
    clear hT hc1
    have H1 : Hid (acE S a = 2 ∧ stS S a v = S) := by simp [Hid, acE, stS, hB]
    have hq : a < 0 ∨ (0 ≤ a ∧ S.ws.length ≤ a) := by simp [inB] at hB; omega
    clear hB
    rcases hq with hq | ⟨hq, hq'⟩ <;>
    · go_enter Try.func25, Try.ntmps25
      go_wp2_with fail
      go_ret
      rw [H1.out.1, H1.out.2]
      exact ⟨rfl, RefAt.gr ⟨_, _, HT.out⟩, Chg.refl _ _⟩
  | true =>
    have H1 : Hid (acE S a = 0 ∧ stS S a v = ⟨S.ws.set a.toNat v, S.ns ++ [.st a (at_ S a) v]⟩) := by simp [Hid, acE, stS, hB]
    obtain ⟨k, rfl, hk⟩ := inB_nat hB
    clear hB
    obtain ⟨g, cap, hv, hg, hn, hm, hcell, hfr⟩ := words_at hT k hk
    simp only [Value.slice.injEq] at hv
    obtain ⟨rfl, _, rfl⟩ := hv
    have HT := Lib.hid hT
    clear hT
    have hi1 : (0 : Int) ≤ (k : Int) := by omega
    have hi2 : (k : Int) < (S.ws.length : Int) := by omega
    obtain ⟨i, hi, hz0, hz1, hz2⟩ := info_parts info5
    have J1 := Lib.hid hi; have J2 := Lib.hid hz0; have J3 := Lib.hid hz1; have J4 := Lib.hid hz2; clear hi hz0 hz1 hz2
    · go_enter Try.func25, Try.ntmps25
      go_wp2_with fail
      have hbw : Below w.heap.size w (w.drew.alloc (Obj.cells (enc5 (.st k (nth S.ws k) v)).toArray 63)) := (Below.refl _ _).drew.alloc (Nat.le_refl _) _
      have HB := Lib.hid hbw; clear hbw
      have hc1a : ∀ o, (w.alloc o).cell? ⟨b, 1, none⟩ = some v2 := fun o => (World.cell?_alloc_some w ⟨b, 1, none⟩ o (by rw [hc1]; rfl)).trans hc1
      go_region_law ((refine step_append_lies _ rfl _ _ 38 rfl 0 63 i _ 5 40 Try.underlying38 J1.out J2.out J3.out J4.out rfl (by decide) v2 S.ns.length _ rfl (World.ownsRow.alloc HT.out.r2.1 _) ⟨w.heap.size, 0, none⟩ 1 1 (enc5 (.st k (nth S.ws k) v)) rfl rfl (news5 w _ rfl) (enc5_one _) (by decide) (by simp only [maxLen]; omega) (by omega) (by simp) (w.heap.size + 1) (by simp) ?_; intro g9 cap9 w1 hown hgrow hat hlt; (obtain ⟨hc1', hf1'⟩ := HT.out.mid HB.out (by decide) hgrow 1); rw [hc1] at hc1'; (have hc0' := (HT.out.mid HB.out (by decide) hgrow 0).1); rw [hc0] at hc0'; (obtain ⟨hcell', hfr', hbg⟩ := HT.out.mid1 HB.out (by decide) (by decide) hgrow k); rw [hcell] at hcell'; (have HA := Lib.hid (HT.out.noted HB.out (by decide) (by decide) (by decide) hown hgrow (by simpa using hat) hlt)); clear hown hgrow hat))
      all_goals
        go_wp2_with fail
        go_ret
        rw [H1.out.1, H1.out.2]
        exact ⟨rfl, ref_stored HA.out.1 HA.out.2⟩
end Go.Proofs.Ytkhhkdkbckdehaa.wm
