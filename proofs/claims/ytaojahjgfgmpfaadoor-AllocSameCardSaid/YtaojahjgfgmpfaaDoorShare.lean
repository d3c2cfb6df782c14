/-
  Memory: what was just made, appended, taken of a slice; that what lies below stays.
-/
import Derived.Test.YtaojahjgfgmpfaaDoorReads
import Derived.Laws.AppendOwnNone
namespace Go.Proofs.YtaojahjgfgmpfaaDoor
open Go Go.RowKit

/-- new memory that was just filled reads as what is in it. -/
theorem reads_new {k : IntKind} {w : World} {e : TypeId} (cs : Array Value) (xs : List Int) (n : Nat) (hn : xs.length = n) (hc : cs = (xs.map (Value.int k)).toArray) (hm : n ≤ 1000000) : Reads k (w.alloc (.cells cs e)) (.slice (some ⟨w.heap.size, 0, none⟩) n n) xs := by
  subst hc
  refine ⟨_, n, n, rfl, hn, Nat.le_refl _, by unfold maxLen; omega, (fun h => by cases h), fun ad had i hi => ?_⟩
  obtain rfl := Option.some.inj had
  refine ⟨rfl, ?_⟩
  rw [World.cell?_alloc_at _ _ _ _ rfl, Nat.zero_add, List.getElem?_toArray, List.getElem?_map, List.getD_eq_getElem?_getD, List.getElem?_eq_getElem (by omega)]
  rfl

/-- 'append(s, x...)', s of the call's own, x whatever it is. -/
theorem wpList_app {P : Program} {w : World} {ops : Array Oper} {rest : List Oper} {o : Oper} {a : Act} {Q : Exit → Act → World → Prop} (hgd : o.guard = none) (s x : Operand) (t : TypeId)
    (ho : o.op = .call { callee := .builtin .append, args := #[s, x], argTypes := #[t, t] })
    (e : TypeId) {z : Value} {bytes : Nat} (ht : P.underlying t = some (.slice e)) (hi : (P.info? e).map (fun i => (i.zero, i.size, i.bytes)) = some (some z, 1, bytes)) (hzs : z.cells.size = 1) (hb64 : bytes ≤ 64)
    (base : Nat) (v : Value) (n : Nat) (xs : List Value) (hs : a.eval s = v) (hown : w.ownsRow base e 1 v n xs)
    {k : IntKind} {xv : Value} {ys : List Int} (hx : a.eval x = xv) (hr : Reads k w xv ys) (hn : n ≤ 1099511627776) (hm : ys.length ≤ 1099511627776) (hbase : base ≤ w.heap.size)
    (h : ∀ v' w', w'.ownsRow base e 1 v' (n + ys.length) (xs ++ ys.map (Value.int k)) → Below base w w' → wpList P ops Q rest (a.put o.dst v') w') : wpList P ops Q (o :: rest) a w := by
  obtain ⟨i, hi0, h1, h2, h3⟩ := info_parts hi
  have hr0 := hr
  obtain ⟨ao, len, c, rfl, el, hlc, hcm, hnone, _⟩ := hr
  subst el
  cases ao with
  | none =>
    obtain ⟨hl, rfl⟩ := hnone rfl
    have : ys = [] := List.eq_nil_of_length_eq_zero hl
    subst this
    refine wpList_append_own_none hgd s x t ho base e i 1 ht hi0 v n xs hs hown hx ?_
    exact h v w (by simpa using hown) (Below.refl _ _)
  | some ad =>
    refine wpList_append_own w hgd s x t ho base e i z 1 bytes ht hi0 h1 h2 h3 hzs (by decide) v n xs hs hown ad ys.length c (ys.map (Value.int k)) hx (by simp) (hr0.cells ad rfl) (ints_oneCell _ _) (by unfold maxLen; omega) ?_ hbase ?_
    · calc (n + ys.length) * bytes ≤ (1099511627776 + 1099511627776) * 64 := Nat.mul_le_mul (by omega) hb64
        _ ≤ _ := by decide
    · intro v' w' h2 h3 _
      exact h v' w' h2 ((Below.refl base w).grown h3 hbase (fun g hg => (hown.lt g hg).1))

theorem below_all {w w' : World} (h : Below w.heap.size w w') : ∀ i, i < w.heap.size → w'.heap[i]? = w.heap[i]? := fun i hi => h.block i hi
theorem below_grown {w w1 w2 : World} {g B : Nat} (h : Below w.heap.size w w1) (hg : w1.grownBy w2 (some g)) (hB : B ≤ g) (hw : w.heap.size ≤ B) : Below w.heap.size w w2 :=
  h.grown hg h.size (fun k hk => by cases hk; omega)
theorem below_drewN {w w1 : World} {B m : Nat} (h : Below B w w1) : Below B w (w1.drewN m) := h.trans ⟨rfl, rfl, rfl, Nat.le_refl _, fun _ _ => rfl⟩


theorem reads_take {k : IntKind} {w : World} {a : Option Addr} {n c m : Nat} {xs : List Int} (h : Reads k w (.slice a n c) xs) (hm : m ≤ n) : Reads k w (.slice a m c) (xs.take m) := by
  obtain ⟨a', len, cap, e, h1, h2, h3, h4, h5⟩ := h
  simp only [Value.slice.injEq] at e
  obtain ⟨rfl, rfl, rfl⟩ := e
  refine ⟨_, m, _, rfl, by simp; omega, by omega, h3, fun h => ⟨by have := (h4 h).1; omega, (h4 h).2⟩, fun ad had i hi => ?_⟩
  obtain ⟨h6, h7⟩ := h5 ad had i (by omega)
  refine ⟨h6, ?_⟩
  rw [h7]
  simp [List.getD_eq_getElem?_getD, hi]
theorem reads_slice {k : IntKind} {w : World} {v : Value} {xs : List Int} (h : Reads k w v xs) : ∃ a c, v = .slice a xs.length c := by
  obtain ⟨a', l', c', e1, e2, _⟩ := h
  exact ⟨a', c', by rw [e1, e2]⟩
theorem reads_some {k : IntKind} {w : World} {v : Value} {xs : List Int} (h : Reads k w v xs) (h0 : 0 < xs.length) : ∃ b o c, v = .slice (some ⟨b, o, none⟩) xs.length c := by
  obtain ⟨a, c, rfl⟩ := reads_slice h
  obtain ⟨b, o, rfl, _⟩ := h.cell 0 h0
  exact ⟨b, o, c, rfl⟩
theorem own_some {w : World} {B : Nat} {e : TypeId} {v : Value} {n : Nat} {xs : List Value} (h : w.ownsRow B e 1 v n xs) (h0 : 0 < n) : ∃ g c, v = .slice (some ⟨g, 0, none⟩) n c ∧ B ≤ g := by
  rcases h.2 with ⟨_, h2⟩ | ⟨g, cap, cur, rfl, hb, _⟩
  · omega
  · exact ⟨g, cap, rfl, hb⟩
end Go.Proofs.YtaojahjgfgmpfaaDoor
