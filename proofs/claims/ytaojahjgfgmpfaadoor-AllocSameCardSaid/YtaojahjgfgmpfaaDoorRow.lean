/-
  Slices whose elements are several cells each: what such a slice reads as; a list's cells; append, take, drop.
-/
import Derived.Test.YtaojahjgfgmpfaaDoorShare
namespace Go.Proofs.YtaojahjgfgmpfaaDoor
open Go Go.RowKit
set_option linter.unusedVariables false

section
variable {α : Type} {f : α → List Value} {s : Nat}
theorem flatR_len (hf : ∀ a, (f a).length = s) : ∀ l : List α, (l.flatMap f).length = l.length * s
  | [] => by simp
  | a :: l => by rw [List.flatMap_cons, List.length_append, hf, flatR_len hf l, List.length_cons, Nat.succ_mul, Nat.add_comm]
theorem flatR_at (hf : ∀ a, (f a).length = s) (d : α) : ∀ (l : List α) (k j : Nat), k < l.length → j < s → (l.flatMap f)[k * s + j]? = (f (l.getD k d))[j]?
  | [], k, j, h, _ => by simp at h
  | a :: l, 0, j, _, hj => by
    rw [List.flatMap_cons, Nat.zero_mul, Nat.zero_add, List.getElem?_append_left (by rw [hf]; exact hj)]
    rfl
  | a :: l, k + 1, j, h, hj => by
    rw [List.flatMap_cons, List.getElem?_append_right (by rw [hf, Nat.succ_mul]; omega), hf, show (k + 1) * s + j - s = k * s + j by rw [Nat.succ_mul]; omega, flatR_at hf d l k j (by simpa using h) hj]
    rfl
theorem flatR_take (hf : ∀ a, (f a).length = s) : ∀ (l : List α) (k : Nat), (l.take k).flatMap f = (l.flatMap f).take (k * s)
  | [], k => by simp
  | a :: l, 0 => by simp
  | a :: l, k + 1 => by
    have e1 : (f a).take ((k + 1) * s) = f a := List.take_of_length_le (by rw [hf, Nat.succ_mul]; omega)
    have e2 : (k + 1) * s - (f a).length = k * s := by rw [hf, Nat.succ_mul]; omega
    rw [List.take_succ_cons, List.flatMap_cons, List.flatMap_cons, flatR_take hf l k, List.take_append, e1, e2]
theorem flatR_drop (hf : ∀ a, (f a).length = s) : ∀ (l : List α) (k : Nat), (l.drop k).flatMap f = (l.flatMap f).drop (k * s)
  | [], k => by simp
  | a :: l, 0 => by simp
  | a :: l, k + 1 => by
    have e1 : (f a).drop ((k + 1) * s) = [] := List.drop_eq_nil_of_le (by rw [hf, Nat.succ_mul]; omega)
    have e2 : (k + 1) * s - (f a).length = k * s := by rw [hf, Nat.succ_mul]; omega
    rw [List.drop_succ_cons, List.flatMap_cons, flatR_drop hf l k, List.drop_append, e1, e2, List.nil_append]
theorem flatR_set (hf : ∀ a, (f a).length = s) (l : List α) (k : Nat) (a : α) (hk : k < l.length) : (l.set k a).flatMap f = (l.flatMap f).take (k * s) ++ f a ++ (l.flatMap f).drop ((k + 1) * s) := by
  rw [List.set_eq_take_append_cons_drop, if_pos hk, List.flatMap_append, List.flatMap_cons, flatR_take hf, flatR_drop hf, List.append_assoc]

/-- The slice v reads as the elements l, each of them s cells. -/
def Row (f : α → List Value) (s : Nat) (w : World) (v : Value) (l : List α) : Prop :=
  ∃ a cap, v = .slice a l.length cap ∧ l.length ≤ cap ∧ cap ≤ maxLen ∧ (a = none → l.length = 0 ∧ cap = 0) ∧
    ∀ ad, a = some ad → ∀ i, i < l.length * s → ad.spot = none ∧ w.cell? ⟨ad.block, ad.off + i, none⟩ = (l.flatMap f)[i]?
theorem Row.nil (w : World) : Row f s w (.slice none 0 0) ([] : List α) :=
  ⟨none, 0, rfl, Nat.le_refl _, by simp, fun _ => ⟨rfl, rfl⟩, fun ad h => by cases h⟩
theorem row_slice {w : World} {v : Value} {l : List α} (h : Row f s w v l) : ∃ a c, v = .slice a l.length c := by
  obtain ⟨a, c, e, _⟩ := h
  exact ⟨a, c, e⟩
theorem row_cap {w : World} {a : Option Addr} {n c : Nat} {l : List α} (h : Row f s w (.slice a n c) l) : n = l.length ∧ n ≤ c ∧ c ≤ maxLen ∧ (a = none → n = 0 ∧ c = 0) := by
  obtain ⟨a', c', e, h1, h2, h3, _⟩ := h
  simp only [Value.slice.injEq] at e
  obtain ⟨rfl, rfl, rfl⟩ := e
  exact ⟨rfl, h1, h2, h3⟩
theorem Row.same (hf : ∀ a, (f a).length = s) {w w' : World} {v : Value} {l : List α} (h : Row f s w v l) (hb : ∀ i, i < w.heap.size → w'.heap[i]? = w.heap[i]?) : Row f s w' v l := by
  obtain ⟨a, cap, rfl, h1, h2, h3, h5⟩ := h
  refine ⟨a, cap, rfl, h1, h2, h3, fun ad had i hi => ?_⟩
  obtain ⟨h6, h7⟩ := h5 ad had i hi
  refine ⟨h6, ?_⟩
  have hlt : i < (l.flatMap f).length := by rw [flatR_len hf]; exact hi
  rw [← h7]
  refine World.cell?_of_block (hb _ (World.block_lt_of_cell? w _ (h7.trans (List.getElem?_eq_getElem hlt))))
theorem Row.below (hf : ∀ a, (f a).length = s) {w w' : World} {v : Value} {l : List α} {B : Nat} (h : Row f s w v l) (hb : Below B w w') (hB : w.heap.size ≤ B) : Row f s w' v l :=
  h.same hf fun i hi => hb.block i (by omega)
/-- An element's cells, in the form in which a walk comes to them. -/
theorem Row.at (hf : ∀ a, (f a).length = s) (d : α) {w : World} {a : Option Addr} {n c : Nat} {l : List α} (h : Row f s w (.slice a n c) l) (k : Nat) (hk : k < n) (hs : 0 < s) :
    ∃ b o, a = some ⟨b, o, none⟩ ∧ ∀ j, j < s → w.cell? ⟨b, o + (k * s + j), none⟩ = (f (l.getD k d))[j]? := by
  obtain ⟨a', c', e, h1, h2, h3, h5⟩ := h
  simp only [Value.slice.injEq] at e
  obtain ⟨rfl, rfl, rfl⟩ := e
  have hlt : ∀ j, j < s → k * s + j < l.length * s := fun j hj => by
    have : (k + 1) * s ≤ l.length * s := Nat.mul_le_mul_right _ hk
    rw [Nat.succ_mul] at this; omega
  cases a with
  | none => have := (h3 rfl).1; omega
  | some ad =>
    obtain ⟨b, o, sp⟩ := ad
    obtain ⟨h6, _⟩ := h5 _ rfl _ (hlt 0 hs)
    simp only at h6
    subst h6
    refine ⟨b, o, rfl, fun j hj => ?_⟩
    rw [(h5 _ rfl _ (hlt j hj)).2, flatR_at hf d l k j hk hj]
theorem row_of_own (hf : ∀ a, (f a).length = s) {w : World} {base : Nat} {e : TypeId} {v : Value} {l : List α} (h : w.ownsRow base e s v l.length (l.flatMap f)) : Row f s w v l := by
  obtain ⟨h1, h2⟩ := h
  rcases h2 with ⟨rfl, h0⟩ | ⟨g, cap, cur, rfl, hb, hg, hn, hc, hs, ht⟩
  · have : l = [] := List.eq_nil_of_length_eq_zero h0
    subst this
    exact Row.nil w
  · refine ⟨_, cap, rfl, hn, hc, (fun h => by cases h), fun ad had i hi => ?_⟩
    obtain rfl := Option.some.inj had
    refine ⟨rfl, ?_⟩
    simp only [Nat.zero_add]
    rw [cell_of_row _ _ _ _ _ _ hg, ← ht, List.getElem?_take, if_pos hi, Array.getElem?_toList]
theorem Row.cells {w : World} {ad : Addr} {n c : Nat} {l : List α} (hf : ∀ a, (f a).length = s) (h : Row f s w (.slice (some ad) n c) l) : ∀ j u, (l.flatMap f)[j]? = some u → w.cell? (ad.add j) = some u := by
  obtain ⟨a', c', e, h1, h2, h3, h5⟩ := h
  simp only [Value.slice.injEq] at e
  obtain ⟨rfl, rfl, rfl⟩ := e
  intro j u hu
  have hj : j < l.length * s := by rw [← flatR_len hf]; exact (List.getElem?_eq_some_iff.1 hu).1
  obtain ⟨h6, h7⟩ := h5 ad rfl j hj
  obtain ⟨b, o, sp⟩ := ad
  simp only at h6
  subst h6
  rw [hu] at h7
  simpa [Addr.add_lit] using h7
theorem row_take (hf : ∀ a, (f a).length = s) {w : World} {a : Option Addr} {n c k : Nat} {l : List α} (h : Row f s w (.slice a n c) l) (hk : k ≤ n) : Row f s w (.slice a k c) (l.take k) := by
  obtain ⟨a', c', e, h1, h2, h3, h5⟩ := h
  simp only [Value.slice.injEq] at e
  obtain ⟨rfl, rfl, rfl⟩ := e
  have hl : (l.take k).length = k := by simp; omega
  refine ⟨a, c, by rw [hl], by omega, h2, fun h => ⟨by have := (h3 h).1; omega, (h3 h).2⟩, fun ad had i hi => ?_⟩
  rw [hl] at hi
  obtain ⟨h6, h7⟩ := h5 ad had i (Nat.lt_of_lt_of_le hi (Nat.mul_le_mul_right _ hk))
  exact ⟨h6, by rw [h7, flatR_take hf, List.getElem?_take, if_pos hi]⟩
theorem row_drop (hf : ∀ a, (f a).length = s) {w : World} {b o n c k m c' : Nat} {l : List α} (h : Row f s w (.slice (some ⟨b, o, none⟩) n c) l) (hm : k + m = n) (hc : m ≤ c') (hc2 : c' ≤ c) :
    Row f s w (.slice (some ⟨b, o + k * s, none⟩) m c') (l.drop k) := by
  obtain ⟨a', cc, e, h1, h2, h3, h5⟩ := h
  simp only [Value.slice.injEq] at e
  obtain ⟨rfl, rfl, rfl⟩ := e
  have hl : (l.drop k).length = m := by simp; omega
  refine ⟨_, c', by rw [hl], by omega, by omega, (fun h => by cases h), fun ad had i hi => ?_⟩
  obtain rfl := Option.some.inj had
  rw [hl] at hi
  have hi2 : k * s + i < l.length * s := by
    have : (k + m) * s = k * s + m * s := Nat.add_mul _ _ _
    rw [hm] at this; omega
  obtain ⟨h6, h7⟩ := h5 _ rfl (k * s + i) hi2
  refine ⟨rfl, ?_⟩
  simp only [Nat.add_assoc] at h7 ⊢
  rw [h7, flatR_drop hf, List.getElem?_drop]
/-- 'l[k:]' as the machine has it: at the capacity the pointer stays, else it goes on. -/
theorem row_from (hf : ∀ a, (f a).length = s) {w : World} {a : Option Addr} {n c k : Nat} {l : List α} (h : Row f s w (.slice a n c) l) (hk : k ≤ n) :
    (c = k → Row f s w (.slice a (n - k) (c - k)) (l.drop k)) ∧ (∀ ad, a = some ad → Row f s w (.slice (some (ad.add (k * s))) (n - k) (c - k)) (l.drop k)) := by
  obtain ⟨a', cc, e, h1, h2, h3, h5⟩ := h
  simp only [Value.slice.injEq] at e
  obtain ⟨rfl, rfl, rfl⟩ := e
  have hl : (l.drop k).length = l.length - k := by simp
  refine ⟨fun hc => ⟨a, c - k, by rw [hl], by omega, by omega, fun _ => by omega, fun ad had i hi => ?_⟩, fun ad had => ⟨_, c - k, by rw [hl], by omega, by omega, (fun h => by cases h), fun ad' had' i hi => ?_⟩⟩
  · rw [hl, show l.length - k = 0 by omega] at hi
    omega
  · obtain rfl := Option.some.inj had'
    rw [hl] at hi
    have hi2 : k * s + i < l.length * s := by
      have : (k + (l.length - k)) * s = k * s + (l.length - k) * s := Nat.add_mul _ _ _
      rw [show k + (l.length - k) = l.length by omega] at this; omega
    obtain ⟨h6, h7⟩ := h5 _ had (k * s + i) hi2
    obtain ⟨b, o, sp⟩ := ad
    simp only at h6
    subst h6
    rw [Addr.add_lit]
    refine ⟨rfl, ?_⟩
    simp only [Nat.add_assoc] at h7 ⊢
    rw [h7, flatR_drop hf, List.getElem?_drop]
theorem row_new (hf : ∀ a, (f a).length = s) {w : World} {e : TypeId} (cs : Array Value) (l : List α) (n : Nat) (hn : l.length = n) (hc : cs = (l.flatMap f).toArray) (hm : n ≤ 1000000) : Row f s (w.alloc (.cells cs e)) (.slice (some ⟨w.heap.size, 0, none⟩) n n) l := by
  subst hc
  subst hn
  refine ⟨_, _, rfl, Nat.le_refl _, by unfold maxLen; omega, (fun h => by cases h), fun ad had i hi => ?_⟩
  obtain rfl := Option.some.inj had
  refine ⟨rfl, ?_⟩
  rw [World.cell?_alloc_at _ _ _ _ rfl, Nat.zero_add, List.getElem?_toArray]

/-- v is the call's own row of the elements l. -/
def OwnR (f : α → List Value) (s : Nat) (e : TypeId) (base : Nat) (w : World) (v : Value) (l : List α) : Prop := w.ownsRow base e s v l.length (l.flatMap f)
theorem OwnR.nil (e : TypeId) (base : Nat) (w : World) : OwnR f s e base w (.slice none 0 0) ([] : List α) := World.ownsRow_nil w base e s
theorem OwnR.row (hf : ∀ a, (f a).length = s) {e : TypeId} {base : Nat} {w : World} {v : Value} {l : List α} (h : OwnR f s e base w v l) : Row f s w v l := row_of_own hf h
theorem OwnR.alloc {e : TypeId} {base : Nat} {w : World} {v : Value} {l : List α} (h : OwnR f s e base w v l) (o : Obj) : OwnR f s e base (w.alloc o) v l := World.ownsRow.alloc h o
theorem OwnR.below {e : TypeId} {base B : Nat} {w w' : World} {v : Value} {l : List α} (h : OwnR f s e base w v l) (hb : Below B w w') (hB : w.heap.size ≤ B) : OwnR f s e base w' v l := own_below h hb hB
theorem own_from {w : World} {base B : Nat} {e : TypeId} {size : Nat} {v : Value} {n : Nat} {xs : List Value} (h : w.ownsRow base e size v n xs) (hB : B ≤ base) : w.ownsRow B e size v n xs := by
  obtain ⟨h1, h2⟩ := h
  refine ⟨h1, ?_⟩
  rcases h2 with h2 | ⟨g, cap, cur, hv, hg, r⟩
  · exact .inl h2
  · exact .inr ⟨g, cap, cur, hv, by omega, r⟩
theorem OwnR.from {e : TypeId} {base B : Nat} {w : World} {v : Value} {l : List α} (h : OwnR f s e base w v l) (hB : B ≤ base) : OwnR f s e B w v l := own_from h hB
/-- 'append(s, x...)', s of the call's own, x whatever it is. -/
theorem wpList_appR {P : Program} {w : World} {ops : Array Oper} {rest : List Oper} {o : Oper} {a : Act} {Q : Exit → Act → World → Prop} (hgd : o.guard = none) (sl x : Operand) (t : TypeId)
    (ho : o.op = .call { callee := .builtin .append, args := #[sl, x], argTypes := #[t, t] })
    (hf : ∀ a, (f a).length = s) (h1c : ∀ a, ∀ u ∈ f a, u.oneCell' = true) (hs0 : 0 < s)
    (e : TypeId) {z : Value} {bytes : Nat} (ht : P.underlying t = some (.slice e)) (hi : (P.info? e).map (fun i => (i.zero, i.size, i.bytes)) = some (some z, s, bytes)) (hzs : z.cells.size = s) (hb64 : bytes ≤ 4096)
    (base : Nat) (v : Value) (l : List α) (hs : a.eval sl = v) (hown : OwnR f s e base w v l)
    {xv : Value} {ys : List α} (hx : a.eval x = xv) (hr : Row f s w xv ys) (hn2 : l.length ≤ 1000000) (hm : ys.length ≤ 1000000) (hbase : base ≤ w.heap.size)
    (h : ∀ v' w', OwnR f s e base w' v' (l ++ ys) → Below base w w' → wpList P ops Q rest (a.put o.dst v') w') : wpList P ops Q (o :: rest) a w := by
  obtain ⟨i, hi0, h1, h2, h3⟩ := info_parts hi
  have hr0 := hr
  obtain ⟨ao, c, rfl, hlc, hcm, hnone, _⟩ := hr
  cases ao with
  | none =>
    obtain ⟨hl, rfl⟩ := hnone rfl
    have : ys = [] := List.eq_nil_of_length_eq_zero hl
    subst this
    refine wpList_append_own_none hgd sl x t ho base e i s ht hi0 v _ _ hs hown hx ?_
    exact h v w (by rw [List.append_nil]; exact hown) (Below.refl _ _)
  | some ad =>
    refine wpList_append_own w hgd sl x t ho base e i z s bytes ht hi0 h1 h2 h3 hzs hs0 v _ _ hs hown ad ys.length c (ys.flatMap f) hx (flatR_len hf ys) (hr0.cells hf) ?_ (by unfold maxLen; omega) ?_ hbase ?_
    · intro u hu
      obtain ⟨y, _, hy⟩ := List.mem_flatMap.1 hu
      exact h1c y u hy
    · calc (l.length + ys.length) * bytes ≤ (1000000 + 1000000) * 4096 := Nat.mul_le_mul (by omega) hb64
        _ ≤ _ := by decide
    · intro v' w' h2 h3 _
      exact h v' w' (by unfold OwnR; rw [List.flatMap_append, List.length_append]; exact h2) ((Below.refl base w).grown h3 hbase (fun g hg => (World.ownsRow.lt hown g hg).1))
/-- 'append(s, x)' of one element, s of the call's own; the element's cells lie in new memory. -/
theorem wpList_appR1 {P : Program} {w : World} {ops : Array Oper} {rest : List Oper} {o : Oper} {a : Act} {Q : Exit → Act → World → Prop} (hgd : o.guard = none) (sl x : Operand) (t : TypeId)
    (ho : o.op = .call { callee := .builtin .append, args := #[sl, x], argTypes := #[t, t] })
    (hf : ∀ a, (f a).length = s) (h1c : ∀ a, ∀ u ∈ f a, u.oneCell' = true) (hs0 : 0 < s)
    (e : TypeId) {z : Value} {bytes : Nat} (ht : P.underlying t = some (.slice e)) (hi : (P.info? e).map (fun i => (i.zero, i.size, i.bytes)) = some (some z, s, bytes)) (hzs : z.cells.size = s) (hb64 : bytes ≤ 4096)
    (base : Nat) (v : Value) (l : List α) (hs : a.eval sl = v) (hown : OwnR f s e base w v l)
    (y : α) (cs : Array Value) (hcs : cs = (f y).toArray) (n0 : Nat) (hx : a.eval x = .slice (some ⟨n0, 0, none⟩) 1 1) (hn0 : n0 = w.heap.size) (hn2 : l.length ≤ 1000000) (hbase : base ≤ w.heap.size)
    (h : ∀ v' w', OwnR f s e base w' v' (l ++ [y]) → Below base w w' → wpList P ops Q rest (a.put o.dst v') w') : wpList P ops Q (o :: rest) a (w.alloc (.cells cs e)) := by
  subst hn0
  refine wpList_appR hgd sl x t ho hf h1c hs0 e ht hi hzs hb64 base v l hs (hown.alloc _) (ys := [y]) hx (row_new hf cs [y] 1 rfl (by simpa using hcs) (by decide)) hn2 (by simp) (by simp; omega) ?_
  intro v' w' h2 h3
  exact h v' w' h2 (((Below.refl base w).alloc hbase _).trans h3)
/-- an element out of an array's value. -/
theorem flatR_extract (hf : ∀ a, (f a).length = s) (d : α) (l : List α) (k : Nat) (hk : k < l.length) : (l.flatMap f).toArray.extract (k * s) (k * s + s) = (f (l.getD k d)).toArray := by
  have hle : (k + 1) * s ≤ l.length * s := Nat.mul_le_mul_right _ hk
  rw [Nat.succ_mul] at hle
  have hl := flatR_len hf l
  apply Array.ext_getElem?
  intro j
  rw [Array.getElem?_extract, List.getElem?_toArray, List.getElem?_toArray]
  by_cases hj : j < s
  · rw [if_pos (by rw [List.size_toArray, hl]; omega), flatR_at hf d l k j hk hj]
  · rw [if_neg (by rw [List.size_toArray, hl]; omega), List.getElem?_eq_none (by rw [hf]; omega)]
theorem run_index_row {P : Program} (t e : TypeId) (n : Nat) (F : Array Value) (ki : IntKind) (k : Nat) (d : TypeDesc) (h : P.underlying t = some (.array n e)) (hk : k < n)
    (hd : (match d with | .struct _ | .array _ _ => true | _ => false) = true) (he : P.underlying e = some d) (hi : (P.info? e).map (·.size) = some s) (w : World) :
    (Instr.index t (.agg F) (.int ki (k : Int))).run P w = .ok (.agg (F.extract (k * s) (k * s + s))) w := by
  cases hq : P.info? e with
  | none => simp [hq] at hi
  | some i =>
    have hs : i.size = s := by simpa [hq] using hi
    have hagg : (isAgg e).run P w = .ok true w := by
      unfold isAgg
      rw [Sem.run_bind, run_underlying he w]
      cases d <;> simp_all
    simp [Instr.index, run_underlying h, asIntOf, part, sizeOf, typeInfo, hq, hs, hagg, Sem.run_bind]
    intro hh
    omega
end
end Go.Proofs.YtaojahjgfgmpfaaDoor
