/-
  What a slice of numbers reads as, whoever owns it; that it reads so still behind a call that writes nothing below.
-/
import Derived.Test.YtaojahjgfgmpfaaDoorOwn
namespace Go.Proofs.YtaojahjgfgmpfaaDoor
open Go Go.RowKit

/-- The slice v reads as the numbers xs. -/
def Reads (k : IntKind) (w : World) (v : Value) (xs : List Int) : Prop :=
  ∃ a len cap, v = .slice a len cap ∧ xs.length = len ∧ len ≤ cap ∧ cap ≤ maxLen ∧ (a = none → len = 0 ∧ cap = 0) ∧
    ∀ ad, a = some ad → ∀ i, i < len → ad.spot = none ∧ w.cell? ⟨ad.block, ad.off + i, none⟩ = some (.int k (xs.getD i 0))

theorem Reads.nil (k : IntKind) (w : World) : Reads k w (.slice none 0 0) [] :=
  ⟨none, 0, 0, rfl, rfl, Nat.le_refl _, by simp, fun _ => ⟨rfl, rfl⟩, fun ad h => by cases h⟩

theorem Reads.same {k : IntKind} {w w' : World} {v : Value} {xs : List Int} (h : Reads k w v xs) (hb : ∀ i, i < w.heap.size → w'.heap[i]? = w.heap[i]?) : Reads k w' v xs := by
  obtain ⟨a, len, cap, rfl, h1, h2, h3, h4, h5⟩ := h
  refine ⟨a, len, cap, rfl, h1, h2, h3, h4, fun ad had i hi => ?_⟩
  obtain ⟨h6, h7⟩ := h5 ad had i hi
  refine ⟨h6, ?_⟩
  rw [World.cell?_of_block (w := w) (hb _ (World.block_lt_of_cell? w _ h7))]
  simpa [Addr.add_lit] using h7
theorem Reads.below {k : IntKind} {w w' : World} {v : Value} {xs : List Int} {B : Nat} (h : Reads k w v xs) (hb : Below B w w') (hB : w.heap.size ≤ B) : Reads k w' v xs :=
  h.same fun i hi => hb.block i (by omega)

/-- An owned row reads as what is in it. -/
theorem reads_of_own {k : IntKind} {w : World} {base : Nat} {e : TypeId} {v : Value} {n : Nat} {xs : List Int} (h : w.ownsRow base e 1 v n (xs.map (Value.int k))) : Reads k w v xs := by
  obtain ⟨h1, h2⟩ := h
  rcases h2 with ⟨rfl, rfl⟩ | ⟨g, cap, cur, rfl, hb, hg, hn, hc, hs, ht⟩
  · have : xs = [] := List.eq_nil_of_length_eq_zero (by simpa using h1)
    subst this
    exact Reads.nil k w
  · simp only [List.length_map, Nat.mul_one] at h1 hs ht
    refine ⟨_, n, cap, rfl, h1, hn, hc, (fun h => by cases h), fun ad had i hi => ?_⟩
    obtain rfl := Option.some.inj had
    refine ⟨rfl, ?_⟩
    have e1 : (cur.toList.take n)[i]? = (xs.map (Value.int k))[i]? := by rw [ht]
    rw [List.getElem?_take, if_pos hi] at e1
    simp only [Nat.zero_add, World.cell?, hg]
    simp only [Array.getElem?_toList] at e1
    rw [e1, List.getElem?_map, List.getD_eq_getElem?_getD, List.getElem?_eq_getElem (by omega)]
    rfl
theorem own_below {w w' : World} {base B : Nat} {e : TypeId} {size : Nat} {v : Value} {n : Nat} {xs : List Value} (h : w.ownsRow base e size v n xs) (hb : Below B w w') (hB : w.heap.size ≤ B) : w'.ownsRow base e size v n xs := by
  obtain ⟨h1, h2⟩ := h
  refine ⟨h1, ?_⟩
  rcases h2 with h2 | ⟨g, cap, cur, hv, hg, hh, r⟩
  · exact .inl h2
  · exact .inr ⟨g, cap, cur, hv, hg, by rw [hb.block g (by have := (Array.getElem?_eq_some_iff.1 hh).1; omega)]; exact hh, r⟩
theorem Reads.cells {k : IntKind} {w : World} {a : Option Addr} {n c : Nat} {xs : List Int} (h : Reads k w (.slice a n c) xs) : ∀ ad, a = some ad → ∀ j u, (xs.map (Value.int k))[j]? = some u → w.cell? (ad.add j) = some u := by
  obtain ⟨a', len, cap, e, h1, h2, h3, h4, h5⟩ := h
  simp only [Value.slice.injEq] at e
  obtain ⟨rfl, rfl, rfl⟩ := e
  intro ad had j u hu
  have hj : j < xs.length := by have := (List.getElem?_eq_some_iff.1 hu).1; simpa using this
  obtain ⟨h6, h7⟩ := h5 ad had j (by omega)
  obtain ⟨b, o, s⟩ := ad
  simp only at h6
  subst h6
  rw [List.getElem?_map, List.getElem?_eq_getElem hj] at hu
  simp only [Option.map_some, Option.some.injEq] at hu
  subst hu
  rw [List.getD_eq_getElem?_getD, List.getElem?_eq_getElem hj] at h7
  simpa [Addr.add_lit] using h7
theorem Reads.ifNone {k : IntKind} {w : World} {a : Option Addr} {n c : Nat} {xs : List Int} (h : Reads k w (.slice a n c) xs) : a = none → n = 0 ∧ c = 0 := by
  obtain ⟨a', len, cap, e, h1, h2, h3, h4, h5⟩ := h
  simp only [Value.slice.injEq] at e
  obtain ⟨rfl, rfl, rfl⟩ := e
  exact h4
/-- The cell of a place, in the form in which a walk comes to it. -/
theorem Reads.cell {k : IntKind} {w : World} {a : Option Addr} {n c : Nat} {xs : List Int} (h : Reads k w (.slice a n c) xs) (i : Nat) (hi : i < n) : ∃ b o, a = some ⟨b, o, none⟩ ∧ w.cell? ⟨b, o + i, none⟩ = some (.int k (xs.getD i 0)) := by
  have hn := h.ifNone
  obtain ⟨a', len, cap, e, h1, h2, h3, h4, h5⟩ := h
  simp only [Value.slice.injEq] at e
  obtain ⟨rfl, rfl, rfl⟩ := e
  cases a with
  | none => have := hn rfl; omega
  | some ad =>
    obtain ⟨h6, h7⟩ := h5 ad rfl i hi
    obtain ⟨b, o, s⟩ := ad
    simp only at h6
    subst h6
    exact ⟨b, o, rfl, h7⟩
end Go.Proofs.YtaojahjgfgmpfaaDoor
