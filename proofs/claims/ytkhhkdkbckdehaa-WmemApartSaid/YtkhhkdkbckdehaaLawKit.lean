/- Plain facts on the model of a memory, for the laws of package wmem. -/
import Derived.Test.YtkhhkdkbckdehaaDoes
import Derived.Test.YtkhhkdkbckdehaaSame
namespace Go.Proofs.Ytkhhkdkbckdehaa.wm
open Go.ChangeShapes Go.WideShapes Go.ChangeAt Go.RowKit frame lift sep
set_option linter.unusedVariables false
section
variable {l : List Int} {ns : List Acc} {k : Nat}
theorem nth_set (hk : k < l.length) (v : Int) : nth (l.set k v) k = v := by simp [nth, List.getD, hk]
theorem nth_ne (j : Nat) (h : k ≠ j) (v : Int) : nth (l.set k v) j = nth l j := by simp [nth, List.getD, h]
theorem inB_of (hk : k < l.length) : inB ⟨l, ns⟩ k = true := by simp [inB]; omega
theorem inB_not {a : Int} (h : a < 0 ∨ l.length ≤ a) : inB ⟨l, ns⟩ a = false := by simp [inB]; omega
theorem ldV_of (hk : k < l.length) : ldV ⟨l, ns⟩ k = nth l k := by unfold ldV; rw [inB_of hk]; rfl
theorem acE_of (hk : k < l.length) : acE ⟨l, ns⟩ k = 0 := by unfold acE; rw [inB_of hk]; rfl
theorem ldS_of (hk : k < l.length) : ldS ⟨l, ns⟩ k = ⟨l, ns ++ [.ld k (nth l k)]⟩ := by unfold ldS; rw [inB_of hk]; rfl
theorem stS_of (hk : k < l.length) (v : Int) : stS ⟨l, ns⟩ k v = ⟨l.set k v, ns ++ [.st k (nth l k) v]⟩ := by unfold stS; rw [inB_of hk]; rfl
theorem swV_of (hk : k < l.length) (o : Int) : swV ⟨l, ns⟩ k o = (nth l k == o) := by unfold swV; rw [inB_of hk]; rfl
theorem swV_yes (hk : k < l.length) (o : Int) (h : nth l k = o) : swV ⟨l, ns⟩ k o = true := by rw [swV_of hk, h]; simp
theorem swV_no (hk : k < l.length) (o : Int) (h : nth l k ≠ o) : swV ⟨l, ns⟩ k o = false := by rw [swV_of hk]; simpa using h
theorem swS_yes (hk : k < l.length) (o v : Int) (h : nth l k = o) : swS ⟨l, ns⟩ k o v = ⟨l.set k v, ns ++ [.sw k o v]⟩ := by
  unfold swS
  rw [inB_of hk, show at_ ⟨l, ns⟩ k = o from h]
  simp
theorem swS_no (hk : k < l.length) (o v : Int) (h : nth l k ≠ o) : swS ⟨l, ns⟩ k o v = ⟨l, ns ++ [.no k (nth l k)]⟩ := by
  unfold swS
  rw [inB_of hk, show (at_ ⟨l, ns⟩ k == o) = false from by rw [beq_eq_false_iff_ne]; exact h]
  rfl
theorem out_ld {a : Int} (h : a < 0 ∨ l.length ≤ a) : ldV ⟨l, ns⟩ a = 0 ∧ acE ⟨l, ns⟩ a = 2 ∧ ldS ⟨l, ns⟩ a = ⟨l, ns⟩ := by unfold ldV acE ldS; rw [inB_not h]; exact ⟨rfl, rfl, rfl⟩
theorem out_sw {a : Int} (h : a < 0 ∨ l.length ≤ a) (o v : Int) : swV ⟨l, ns⟩ a o = false ∧ acE ⟨l, ns⟩ a = 2 ∧ swS ⟨l, ns⟩ a o v = ⟨l, ns⟩ := by unfold swV acE swS; rw [inB_not h]; exact ⟨rfl, rfl, rfl⟩
theorem out_st {a : Int} (h : a < 0 ∨ l.length ≤ a) (v : Int) : acE ⟨l, ns⟩ a = 2 ∧ stS ⟨l, ns⟩ a v = ⟨l, ns⟩ := by unfold acE stS; rw [inB_not h]; exact ⟨rfl, rfl⟩
end
def wrow (v : Value) (l : List Int) : Thing := row 33 1 v l.length (l.map (Value.int .u64))
def RowIn (W : World) (L : List Thing) (l : List Int) (e : Ending) (w' : World) : Prop := ∃ v, e = .returned v ∧ Here W (wrow v l :: L) w'
section
variable {W w w' : World} {L : List Thing} {b : Nat} {S : St}
theorem Here.row_new {v : Value} {l : List Int} (h : Here W L w) (hn : New1 w w' 33 .u64 v l) (hb : Below w.heap.size w w') : Here W (wrow v l :: L) w' :=
  h.new hb (A := wrow v l) ⟨fun k hk => hk.2, hn⟩ (fun k hk => hk.1)
theorem words_in (h : Here W L w) (hm : mem b S ∈ L) (hl : S.ws.length ≤ 1000000) : Calls Try.prog 14 #[.pointer (some ⟨b, 0, none⟩)] w (RowIn W L S.ws) :=
  (words_any h hm hl).mono fun e w' ⟨v, he, hn, hb⟩ => ⟨v, he, Here.row_new h hn hb⟩
theorem ints_here {v : Value} {l : List Int} (h : Here W L w) (hm : wrow v l ∈ L) : Ints w .u64 v l := by
  obtain ⟨F, hh, _⟩ := h.get _ hm
  exact ints_of hh.2
theorem ints_form {k : IntKind} {v : Value} {l : List Int} (h : Ints w k v l) : ∃ a cap, v = .slice a l.length cap := by
  rcases h with ⟨rfl, a, cap, rfl⟩ | ⟨h0, b, off, cap, rfl, _⟩
  · exact ⟨_, _, rfl⟩
  · exact ⟨_, _, rfl⟩
end
end Go.Proofs.Ytkhhkdkbckdehaa.wm
