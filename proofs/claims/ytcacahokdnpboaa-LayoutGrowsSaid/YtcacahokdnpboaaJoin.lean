/- append(own, other...): a slice of the call's own, and whatever slice behind it, empty or nil too: one law, in which the value that comes out is not looked into. Nothing here speaks of the program. -/
import Derived.Test.YtcacahokdnpboaaOwn
import Derived.Test.YtcacahokdnpboaaHold
import Derived.Laws.OwnMore
namespace Go.Proofs.Ytcacahokdnpboaa.join
open Go.ChangeShapes Go.WideShapes Go.ChangeAt Go.RowKit lift own sep frame
set_option linter.unusedVariables false
set_option linter.unusedSimpArgs false
theorem below_trans {a b c : World} (h : Below a.heap.size a b) (k : Below b.heap.size b c) : Below a.heap.size a c := h.trans (k.mono h.size)
/-- A slice that can be read: n elements, size cells each. -/
def Reads (w : World) (v : Value) (n size : Nat) (xs : List Value) : Prop :=
  xs.length = n * size ∧ (∀ u ∈ xs, u.oneCell' = true) ∧ ∃ a cap, v = .slice a n cap ∧ (0 < n → ∃ ad, a = some ad ∧ ∀ j u, xs[j]? = some u → w.cell? (ad.add j) = some u)
theorem reads_ints {w : World} {k : IntKind} {v : Value} {l : List Int} (h : Ints w k v l) : Reads w v l.length 1 (l.map (Value.int k)) := by
  refine ⟨by simp, fun u hu => ?_, ?_⟩
  · obtain ⟨x, _, rfl⟩ := List.mem_map.1 hu
    rfl
  · rcases h with ⟨rfl, a, cap, rfl⟩ | ⟨h0, b, off, cap, rfl, _, _, hb, hc⟩
    · exact ⟨a, cap, rfl, fun h => by simp at h⟩
    · refine ⟨_, cap, rfl, fun _ => ⟨_, rfl, fun j u hj => ?_⟩⟩
      rw [List.getElem?_map] at hj
      have hjl : j < l.length := by
        by_cases h : j < l.length
        · exact h
        · rw [List.getElem?_eq_none (by omega)] at hj
          cases hj
      rw [List.getElem?_eq_getElem hjl] at hj
      simp at hj
      subst hj
      rw [add_plain, hc j hjl]
      simp [nth, List.getD, hjl]
theorem run_empty {P : Program} {w : World} (base : Nat) (t ty e : TypeId) (i : TypeInfo) (size : Nat) (ht : P.underlying t = some (.slice e)) (hi : P.info? e = some i)
    (v : Value) (n : Nat) (xs : List Value) (hown : w.ownsRow base e size v n xs) (a : Option Addr) (c : Nat) :
    (Builtin.append_ #[t, t] ty #[v, .slice a 0 c]).run P w = .ok v w := by
  rcases hown.2 with ⟨rfl, rfl⟩ | ⟨g, cap, cur, rfl, _, _, hnc, _⟩
  · cases a <;> simp [Builtin.append_, run_underlying ht, sizeOf, typeInfo, hi, Builtin.lenOf, Builtin.firstCells, storeCells, loadCells, loadCellsFrom]
  · cases a <;> simp [Builtin.append_, run_underlying ht, sizeOf, typeInfo, hi, Builtin.lenOf, Builtin.firstCells, hnc, storeCells, loadCells, loadCellsFrom]
theorem run_join {P : Program} {w : World} (t ty : TypeId) (base : Nat) (e : TypeId) (i : TypeInfo) (z : Value) (size bytes : Nat) (ht : P.underlying t = some (.slice e)) (hi : P.info? e = some i) (hz : i.zero = some z)
    (hsize : i.size = size) (hby : i.bytes = bytes) (hzs : z.cells.size = size) (hsz : 0 < size)
    (v : Value) (n : Nat) (xs : List Value) (hown : w.ownsRow base e size v n xs) (x : Value) (m : Nat) (news : List Value) (hx : Reads w x m size news)
    (hlen : n + m ≤ 1099511627776) (hby2 : bytes ≤ 64) (hbase : base ≤ w.heap.size) :
    ∃ v' w', (Builtin.append_ #[t, t] ty #[v, x]).run P w = .ok v' w' ∧ w'.ownsRow base e size v' (n + m) (xs ++ news) ∧ w.grownBy w' v.ownBlock ∧ ∀ g, v'.ownBlock = some g → (v.ownBlock = some g ∨ g = w.heap.size) ∧ g < w'.heap.size := by
  obtain ⟨hl, h1, a, cap, rfl, hc⟩ := hx
  by_cases hm : 0 < m
  · obtain ⟨ad, rfl, hcell⟩ := hc hm
    have hb : (n + m) * bytes ≤ (n + m) * 64 := Nat.mul_le_mul_left _ hby2
    obtain ⟨g, cap', w', hr, h2, h3, h4, h5⟩ := run_append_lies (P := P) w t ty base e i z size bytes ht hi hz hsize hby hzs hsz v n xs hown ad m cap news hl hcell h1 hm (by simp only [maxLen]; omega) (by omega) hbase _ rfl
    refine ⟨_, w', hr, h2, h3, fun g' hg' => ?_⟩
    have : g' = g := by simpa [Value.ownBlock] using hg'.symm
    subst this
    exact ⟨h4, h5⟩
  · obtain rfl : m = 0 := by omega
    obtain rfl : news = [] := List.eq_nil_of_length_eq_zero (by omega)
    exact ⟨v, w, run_empty base t ty e i size ht hi v n xs hown a cap, by simpa using hown, ⟨rfl, rfl, rfl, Nat.le_refl _, fun _ _ _ => rfl⟩, fun g hg => ⟨.inl hg, (World.ownsRow.lt hown g hg).2⟩⟩
section
variable {P : Program} (w : World) {ops : Array Oper} {rest : List Oper} {o : Oper} {a : Act} {Q : Exit → Act → World → Prop}
theorem wp_join {K : Act → World → Prop} (s x : Operand) (t : TypeId) (ho : o.op = .call { callee := .builtin .append, args := #[s, x], argTypes := #[t, t] })
    (base : Nat) (e : TypeId) (z : Value) (size bytes : Nat) (ht : P.underlying t = some (.slice e)) (hinfo : (P.info? e).map (fun i => (i.zero, i.size, i.bytes)) = some (some z, size, bytes)) (hzs : z.cells.size = size) (hsz : 0 < size)
    (v : Value) (n : Nat) (xs : List Value) (hs : a.eval s = v) (hown : w.ownsRow base e size v n xs) (xv : Value) (m : Nat) (news : List Value) (hxv : a.eval x = xv) (hx : Reads w xv m size news)
    (hlen : n + m ≤ 1099511627776) (hby2 : bytes ≤ 64) (hbase : base ≤ w.heap.size)
    (h : ∀ v' w', w'.ownsRow base e size v' (n + m) (xs ++ news) → w.grownBy w' v.ownBlock → (∀ g, v'.ownBlock = some g → (v.ownBlock = some g ∨ g = w.heap.size) ∧ g < w'.heap.size) → K (a.put o.dst v') w') : o.wp P a w K Q := by
  obtain ⟨i, hi, hz0, hz1, hz2⟩ := info_parts hinfo
  obtain ⟨v', w', hr, h2, h3, h4⟩ := run_join (P := P) t o.type base e i z size bytes ht hi hz0 hz1 hz2 hzs hsz v n xs hown xv m news hx hlen hby2 hbase
  unfold Oper.wp execOp
  simp only [ho, resolve, invoke, builtin, Sem.run_bind, Sem.run_pure, Result.andThen_ok, List.map_toArray, List.map_cons, List.map_nil, hs, hxv, hr]
  exact h v' w' h2 h3 h4
/-- A slice of whole numbers, and another one behind it. -/
theorem wpList_cat (hgd : o.guard = none) (s x : Operand) (t : TypeId) (ho : o.op = .call { callee := .builtin .append, args := #[s, x], argTypes := #[t, t] })
    (B : Nat) (e : TypeId) (k : IntKind) (z : Value) (bytes : Nat) (ht : P.underlying t = some (.slice e)) (hinfo : (P.info? e).map (fun i => (i.zero, i.size, i.bytes)) = some (some z, 1, bytes)) (hzs : z.cells.size = 1)
    (v : Value) (l : List Int) (hs : a.eval s = v) (hown : Own w B e k v l) (xv : Value) (m : List Int) (hxv : a.eval x = xv) (hx : Ints w k xv m)
    (hlen : l.length + m.length ≤ 1099511627776) (hby : bytes ≤ 64) (hB : B ≤ w.heap.size)
    (h : ∀ v' w', Own w' B e k v' (l ++ m) → w.grownBy w' v.ownBlock → wpList P ops Q rest (a.put o.dst v') w') : wpList P ops Q (o :: rest) a w :=
  wpList_plain hgd fun _ hK => wp_join w s x t ho B e z 1 bytes ht hinfo hzs (by decide) v l.length _ hs hown xv m.length _ hxv (reads_ints hx) hlen hby hB fun v' w' h2 h3 _ => hK _ _ (h v' w' (by simpa [Own] using h2) h3)
/-- The same, at a step of a region that draws its order. -/
theorem step_cat {K : Act → World → Prop} {E : Prop} (hgd : o.guard = none) (s x : Operand) (t : TypeId) (ho : o.op = .call { callee := .builtin .append, args := #[s, x], argTypes := #[t, t] })
    (B : Nat) (e : TypeId) (k : IntKind) (z : Value) (bytes : Nat) (ht : P.underlying t = some (.slice e)) (hinfo : (P.info? e).map (fun i => (i.zero, i.size, i.bytes)) = some (some z, 1, bytes)) (hzs : z.cells.size = 1)
    (v : Value) (l : List Int) (hs : a.eval s = v) (hown : Own w B e k v l) (xv : Value) (m : List Int) (hxv : a.eval x = xv) (hx : Ints w k xv m)
    (hlen : l.length + m.length ≤ 1099511627776) (hby : bytes ≤ 64) (hB : B ≤ w.heap.size)
    (h : ∀ v' w', Own w' B e k v' (l ++ m) → w.grownBy w' v.ownBlock → K (a.put o.dst v') w') :
    if Region.wanted o (yielded ops a.tmps) = true then Oper.wp P o a w K Q else E := by
  have hw : Region.wanted o (yielded ops a.tmps) = true := by simp [Region.wanted, hgd]
  rw [if_pos hw]
  exact wp_join w s x t ho B e z 1 bytes ht hinfo hzs (by decide) v l.length _ hs hown xv m.length _ hxv (reads_ints hx) hlen hby hB fun v' w' h2 h3 _ => h v' w' (by simpa [Own] using h2) h3
/-- Elements of more cells than one. -/
theorem wpList_join (hgd : o.guard = none) (s x : Operand) (t : TypeId) (ho : o.op = .call { callee := .builtin .append, args := #[s, x], argTypes := #[t, t] })
    (base : Nat) (e : TypeId) (z : Value) (size bytes : Nat) (ht : P.underlying t = some (.slice e)) (hinfo : (P.info? e).map (fun i => (i.zero, i.size, i.bytes)) = some (some z, size, bytes)) (hzs : z.cells.size = size) (hsz : 0 < size)
    (v : Value) (n : Nat) (xs : List Value) (hs : a.eval s = v) (hown : w.ownsRow base e size v n xs) (xv : Value) (m : Nat) (news : List Value) (hxv : a.eval x = xv) (hx : Reads w xv m size news)
    (hlen : n + m ≤ 1099511627776) (hby2 : bytes ≤ 64) (hbase : base ≤ w.heap.size)
    (h : ∀ v' w', w'.ownsRow base e size v' (n + m) (xs ++ news) → w.grownBy w' v.ownBlock → (∀ g, v'.ownBlock = some g → (v.ownBlock = some g ∨ g = w.heap.size) ∧ g < w'.heap.size) → wpList P ops Q rest (a.put o.dst v') w') : wpList P ops Q (o :: rest) a w :=
  wpList_plain hgd fun _ hK => wp_join w s x t ho base e z size bytes ht hinfo hzs hsz v n xs hs hown xv m news hxv hx hlen hby2 hbase fun v' w' h2 h3 h4 => hK _ _ (h v' w' h2 h3 h4)
theorem step_join {K : Act → World → Prop} {E : Prop} (hgd : o.guard = none) (s x : Operand) (t : TypeId) (ho : o.op = .call { callee := .builtin .append, args := #[s, x], argTypes := #[t, t] })
    (base : Nat) (e : TypeId) (z : Value) (size bytes : Nat) (ht : P.underlying t = some (.slice e)) (hinfo : (P.info? e).map (fun i => (i.zero, i.size, i.bytes)) = some (some z, size, bytes)) (hzs : z.cells.size = size) (hsz : 0 < size)
    (v : Value) (n : Nat) (xs : List Value) (hs : a.eval s = v) (hown : w.ownsRow base e size v n xs) (xv : Value) (m : Nat) (news : List Value) (hxv : a.eval x = xv) (hx : Reads w xv m size news)
    (hlen : n + m ≤ 1099511627776) (hby2 : bytes ≤ 64) (hbase : base ≤ w.heap.size)
    (h : ∀ v' w', w'.ownsRow base e size v' (n + m) (xs ++ news) → w.grownBy w' v.ownBlock → (∀ g, v'.ownBlock = some g → (v.ownBlock = some g ∨ g = w.heap.size) ∧ g < w'.heap.size) → K (a.put o.dst v') w') :
    if Region.wanted o (yielded ops a.tmps) = true then Oper.wp P o a w K Q else E := by
  have hw : Region.wanted o (yielded ops a.tmps) = true := by simp [Region.wanted, hgd]
  rw [if_pos hw]
  exact wp_join w s x t ho base e z size bytes ht hinfo hzs hsz v n xs hs hown xv m news hxv hx hlen hby2 hbase h
end
/-- An empty slice that was made just now: 'T{}'. -/
theorem own_empty {W : World} {B : Nat} (e : TypeId) (k : IntKind) (hB : B ≤ W.heap.size) : Own (W.alloc (.cells #[] e (0, 0))) B e k (.slice (some ⟨W.heap.size, 0, none⟩) 0 0) [] :=
  ⟨rfl, .inr ⟨W.heap.size, 0, #[], rfl, hB, (MapKept.heap_alloc W _).1, Nat.le_refl _, by simp [maxLen], rfl, rfl⟩⟩
theorem _root_.Go.Proofs.Ytcacahokdnpboaa.own.Own.form {W : World} {B : Nat} {e : TypeId} {k : IntKind} {v : Value} {l : List Int} (h : Own W B e k v l) : ∃ a cap, v = .slice a l.length cap ∧ l.length ≤ cap ∧ cap ≤ maxLen := by
  rcases h.2 with ⟨h1, h2⟩ | ⟨g, cap, cur, hv, _, _, h1, h2, _⟩
  · exact ⟨none, 0, by rw [h2]; exact h1, by omega, by simp [maxLen]⟩
  · exact ⟨_, cap, hv, h1, h2⟩
theorem _root_.Go.Proofs.Ytcacahokdnpboaa.own.Own.ints {W : World} {B : Nat} {e : TypeId} {k : IntKind} {v : Value} {l : List Int} (h : Own W B e k v l) : Ints W k v l :=
  row_ints (e := e) ⟨h.1, h.2.imp id fun ⟨g, cap, cur, hv, hg, r⟩ => ⟨g, cap, cur, hv, Nat.zero_le _, r⟩⟩
theorem _root_.Go.Proofs.Ytcacahokdnpboaa.own.Own.start {W : World} {B : Nat} {e : TypeId} {k : IntKind} {v : Value} {l : List Int} (h : Own W B e k v l) {B' : Nat} (hB : B' ≤ B) : Own W B' e k v l :=
  ⟨h.1, h.2.imp id fun ⟨g, cap, cur, hv, hg, r⟩ => ⟨g, cap, cur, hv, Nat.le_trans hB hg, r⟩⟩
end Go.Proofs.Ytcacahokdnpboaa.join
