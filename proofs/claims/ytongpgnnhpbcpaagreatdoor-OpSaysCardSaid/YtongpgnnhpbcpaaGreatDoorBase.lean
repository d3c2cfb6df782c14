/-
  Laws of one's own on memory that a call makes: one element appended to a row of the call's own.
  What a slice of numbers reads as, whoever owns it; that it reads so still behind a call that writes nothing below.
  Memory: what was just made, appended, taken of a slice; that what lies below stays.
  Slices whose elements are several cells each: what such a slice reads as; a list's cells; append, take, drop.
  One cell of one element of a slice of structs is written.
  Memory that a call makes and writes: what all that was there but some blocks; a block of bytes; a result that lies in a cell.
  A row of numbers of 64 bits that a call makes and writes.
  'append' on a slice of structs of the call's own, with what stays: all blocks but the slice's own.
  'append(s, x...)' at a step of a region that draws its order, s of the call's own, x whatever it is.
  A drawn region by hand: an operation that is struck, one that reads at most, taken first.
  pledgeworld.Number: a number from 0 up to less than a bound.
-/
import Derived.Test.YtongpgnnhpbcpaaGreatDoorRet
import Derived.WalkKit
import Derived.Below
import Derived.OwnWalk
import Derived.Carry
import Derived.WalkSmall
import Derived.Laws.AppendOwnNone
import Derived.Laws.World
import Derived.Deep.MidRow
import Derived.Laws.Rows
import Derived.Test.YtongpgnnhpbcpaaGreatDoorProg
import Derived.Deep.RegionHeld3
import Derived.Deep.AppendLies
import Derived.WalkSpells
import Derived.WalkLawsBesides
import Derived.Outline
namespace Go.Proofs.YtongpgnnhpbcpaaGreatDoor
open Go Go.RowKit

theorem new_cell (w : World) (x : Value) (e : TypeId) : ∀ j u, [x][j]? = some u → (w.alloc (.cells #[x] e)).cell? ((⟨w.heap.size, 0, none⟩ : Addr).add j) = some u := by
  intro j u h
  match j with
  | 0 =>
    simp at h; subst h
    rw [show ((⟨w.heap.size, 0, none⟩ : Addr).add 0) = ⟨w.heap.size, 0, none⟩ from rfl, World.cell?_alloc_at _ _ _ _ rfl]; rfl
  | j + 1 => simp at h

/-- 'append(s, x)' of one element of one cell, s of the call's own. -/
theorem wpList_app1 {P : Program} {w : World} {ops : Array Oper} {rest : List Oper} {o : Oper} {a : Act} {Q : Exit → Act → World → Prop} (hgd : o.guard = none) (s x : Operand) (t : TypeId)
    (ho : o.op = .call { callee := .builtin .append, args := #[s, x], argTypes := #[t, t] })
    (e : TypeId) {z : Value} {bytes : Nat} (ht : P.underlying t = some (.slice e)) (hi : (P.info? e).map (fun i => (i.zero, i.size, i.bytes)) = some (some z, 1, bytes)) (hzs : z.cells.size = 1) (hb64 : bytes ≤ 64)
    (base : Nat) (v : Value) (n : Nat) (xs : List Value) (hs : a.eval s = v) (hown : w.ownsRow base e 1 v n xs)
    (u : Value) (hx : a.eval x = .slice (some ⟨w.heap.size, 0, none⟩) 1 1) (hone : u.oneCell' = true) (hn : n ≤ 1099511627776) (hbase : base ≤ w.heap.size)
    (h : ∀ v' w', w'.ownsRow base e 1 v' (n + 1) (xs ++ [u]) → Below base w w' → wpList P ops Q rest (a.put o.dst v') w') : wpList P ops Q (o :: rest) a (w.alloc (.cells #[u] e)) := by
  obtain ⟨i, hi0, h1, h2, h3⟩ := info_parts hi
  refine wpList_append_own (w.alloc (.cells #[u] e)) hgd s x t ho base e i z 1 bytes ht hi0 h1 h2 h3 hzs (by decide) v n xs hs (hown.alloc _) ⟨w.heap.size, 0, none⟩ 1 1 [u] hx (by simp) (new_cell _ _ _) (by simpa using hone) (by unfold maxLen; omega) ?_ (by simp; omega) ?_
  · calc (n + 1) * bytes ≤ (1099511627776 + 1) * 64 := Nat.mul_le_mul (by omega) hb64
      _ ≤ _ := by decide
  · intro v' w' h2 h3 _
    exact h v' w' h2 (((Below.refl base w).alloc hbase _).grown h3 (by simp; omega) (fun g hg => (hown.lt g hg).1))
/-- .. where the walk spells the new block's number otherwise. 'append(s, x)' of one element of one cell, s of the call's own. -/
theorem wpList_app1' {P : Program} {w : World} {ops : Array Oper} {rest : List Oper} {o : Oper} {a : Act} {Q : Exit → Act → World → Prop} (hgd : o.guard = none) (s x : Operand) (t : TypeId)
    (ho : o.op = .call { callee := .builtin .append, args := #[s, x], argTypes := #[t, t] })
    (e : TypeId) {z : Value} {bytes : Nat} (ht : P.underlying t = some (.slice e)) (hi : (P.info? e).map (fun i => (i.zero, i.size, i.bytes)) = some (some z, 1, bytes)) (hzs : z.cells.size = 1) (hb64 : bytes ≤ 64)
    (base : Nat) (v : Value) (n : Nat) (xs : List Value) (hs : a.eval s = v) (hown : w.ownsRow base e 1 v n xs)
    (u : Value) (n0 : Nat) (hx : a.eval x = .slice (some ⟨n0, 0, none⟩) 1 1) (hn0 : n0 = w.heap.size) (hone : u.oneCell' = true) (hn : n ≤ 1099511627776) (hbase : base ≤ w.heap.size)
    (h : ∀ v' w', w'.ownsRow base e 1 v' (n + 1) (xs ++ [u]) → Below base w w' → wpList P ops Q rest (a.put o.dst v') w') : wpList P ops Q (o :: rest) a (w.alloc (.cells #[u] e)) := by
  subst hn0
  exact wpList_app1 hgd s x t ho e ht hi hzs hb64 base v n xs hs hown u hx hone hn hbase h
end Go.Proofs.YtongpgnnhpbcpaaGreatDoor
namespace Go.Proofs.YtongpgnnhpbcpaaGreatDoor
open Go Go.RowKit

/-- The slice v reads as the numbers xs. -/
def Reads (k : IntKind) (w : World) (v : Value) (xs : List Int) : Prop :=
  ∃ a len cap, v = .slice a len cap ∧ xs.length = len ∧ len ≤ cap ∧ cap ≤ maxLen ∧ (a = none → len = 0 ∧ cap = 0) ∧
    ∀ ad, a = some ad → ∀ i, i < len → ad.spot = none ∧ w.cell? ⟨ad.block, ad.off + i, none⟩ = some (.int k (xs.getD i 0))

theorem Reads.nil (k : IntKind) (w : World) : Reads k w (.slice none 0 0) [] :=
  ⟨none, 0, 0, rfl, rfl, Nat.le_refl _, by simp, fun _ => ⟨rfl, rfl⟩, fun ad h => by cases h⟩

theorem Reads.same {k : IntKind} {w w' : World} {v : Value} {xs : List Int} (h : Reads k w v xs) (hb : ∀ i, i < w.heap.size → w'.heap[i]? = w.heap[i]?) : Reads k w' v xs := by
  obtain ⟨a, len, cap, rfl, h1, h2, h3, h4, h5⟩ := h
  refine ⟨a, len, cap, rfl, h1, h2, h3, h4, fun ad had i hi => ?_⟩
  obtain ⟨h6, h7⟩ := h5 ad had i hi
  refine ⟨h6, ?_⟩
  rw [World.cell?_of_block (w := w) (hb _ (World.block_lt_of_cell? w _ h7))]
  simpa [Addr.add_lit] using h7
theorem Reads.below {k : IntKind} {w w' : World} {v : Value} {xs : List Int} {B : Nat} (h : Reads k w v xs) (hb : Below B w w') (hB : w.heap.size ≤ B) : Reads k w' v xs :=
  h.same fun i hi => hb.block i (by omega)

/-- An owned row reads as what is in it. -/
theorem reads_of_own {k : IntKind} {w : World} {base : Nat} {e : TypeId} {v : Value} {n : Nat} {xs : List Int} (h : w.ownsRow base e 1 v n (xs.map (Value.int k))) : Reads k w v xs := by
  obtain ⟨h1, h2⟩ := h
  rcases h2 with ⟨rfl, rfl⟩ | ⟨g, cap, cur, rfl, hb, hg, hn, hc, hs, ht⟩
  · have : xs = [] := List.eq_nil_of_length_eq_zero (by simpa using h1)
    subst this
    exact Reads.nil k w
  · simp only [List.length_map, Nat.mul_one] at h1 hs ht
    refine ⟨_, n, cap, rfl, h1, hn, hc, (fun h => by cases h), fun ad had i hi => ?_⟩
    obtain rfl := Option.some.inj had
    refine ⟨rfl, ?_⟩
    have e1 : (cur.toList.take n)[i]? = (xs.map (Value.int k))[i]? := by rw [ht]
    rw [List.getElem?_take, if_pos hi] at e1
    simp only [Nat.zero_add, World.cell?, hg]
    simp only [Array.getElem?_toList] at e1
    rw [e1, List.getElem?_map, List.getD_eq_getElem?_getD, List.getElem?_eq_getElem (by omega)]
    rfl
theorem own_below {w w' : World} {base B : Nat} {e : TypeId} {size : Nat} {v : Value} {n : Nat} {xs : List Value} (h : w.ownsRow base e size v n xs) (hb : Below B w w') (hB : w.heap.size ≤ B) : w'.ownsRow base e size v n xs := by
  obtain ⟨h1, h2⟩ := h
  refine ⟨h1, ?_⟩
  rcases h2 with h2 | ⟨g, cap, cur, hv, hg, hh, r⟩
  · exact .inl h2
  · exact .inr ⟨g, cap, cur, hv, hg, by rw [hb.block g (by have := (Array.getElem?_eq_some_iff.1 hh).1; omega)]; exact hh, r⟩
theorem Reads.cells {k : IntKind} {w : World} {a : Option Addr} {n c : Nat} {xs : List Int} (h : Reads k w (.slice a n c) xs) : ∀ ad, a = some ad → ∀ j u, (xs.map (Value.int k))[j]? = some u → w.cell? (ad.add j) = some u := by
  obtain ⟨a', len, cap, e, h1, h2, h3, h4, h5⟩ := h
  simp only [Value.slice.injEq] at e
  obtain ⟨rfl, rfl, rfl⟩ := e
  intro ad had j u hu
  have hj : j < xs.length := by have := (List.getElem?_eq_some_iff.1 hu).1; simpa using this
  obtain ⟨h6, h7⟩ := h5 ad had j (by omega)
  obtain ⟨b, o, s⟩ := ad
  simp only at h6
  subst h6
  rw [List.getElem?_map, List.getElem?_eq_getElem hj] at hu
  simp only [Option.map_some, Option.some.injEq] at hu
  subst hu
  rw [List.getD_eq_getElem?_getD, List.getElem?_eq_getElem hj] at h7
  simpa [Addr.add_lit] using h7
theorem Reads.ifNone {k : IntKind} {w : World} {a : Option Addr} {n c : Nat} {xs : List Int} (h : Reads k w (.slice a n c) xs) : a = none → n = 0 ∧ c = 0 := by
  obtain ⟨a', len, cap, e, h1, h2, h3, h4, h5⟩ := h
  simp only [Value.slice.injEq] at e
  obtain ⟨rfl, rfl, rfl⟩ := e
  exact h4
/-- The cell of a place, in the form in which a walk comes to it. -/
theorem Reads.cell {k : IntKind} {w : World} {a : Option Addr} {n c : Nat} {xs : List Int} (h : Reads k w (.slice a n c) xs) (i : Nat) (hi : i < n) : ∃ b o, a = some ⟨b, o, none⟩ ∧ w.cell? ⟨b, o + i, none⟩ = some (.int k (xs.getD i 0)) := by
  have hn := h.ifNone
  obtain ⟨a', len, cap, e, h1, h2, h3, h4, h5⟩ := h
  simp only [Value.slice.injEq] at e
  obtain ⟨rfl, rfl, rfl⟩ := e
  cases a with
  | none => have := hn rfl; omega
  | some ad =>
    obtain ⟨h6, h7⟩ := h5 ad rfl i hi
    obtain ⟨b, o, s⟩ := ad
    simp only at h6
    subst h6
    exact ⟨b, o, rfl, h7⟩
end Go.Proofs.YtongpgnnhpbcpaaGreatDoor
namespace Go.Proofs.YtongpgnnhpbcpaaGreatDoor
open Go Go.RowKit

/-- new memory that was just filled reads as what is in it. -/
theorem reads_new {k : IntKind} {w : World} {e : TypeId} (cs : Array Value) (xs : List Int) (n : Nat) (hn : xs.length = n) (hc : cs = (xs.map (Value.int k)).toArray) (hm : n ≤ 1000000) : Reads k (w.alloc (.cells cs e)) (.slice (some ⟨w.heap.size, 0, none⟩) n n) xs := by
  subst hc
  refine ⟨_, n, n, rfl, hn, Nat.le_refl _, by unfold maxLen; omega, (fun h => by cases h), fun ad had i hi => ?_⟩
  obtain rfl := Option.some.inj had
  refine ⟨rfl, ?_⟩
  rw [World.cell?_alloc_at _ _ _ _ rfl, Nat.zero_add, List.getElem?_toArray, List.getElem?_map, List.getD_eq_getElem?_getD, List.getElem?_eq_getElem (by omega)]
  rfl

/-- 'append(s, x...)', s of the call's own, x whatever it is. -/
theorem wpList_app {P : Program} {w : World} {ops : Array Oper} {rest : List Oper} {o : Oper} {a : Act} {Q : Exit → Act → World → Prop} (hgd : o.guard = none) (s x : Operand) (t : TypeId)
    (ho : o.op = .call { callee := .builtin .append, args := #[s, x], argTypes := #[t, t] })
    (e : TypeId) {z : Value} {bytes : Nat} (ht : P.underlying t = some (.slice e)) (hi : (P.info? e).map (fun i => (i.zero, i.size, i.bytes)) = some (some z, 1, bytes)) (hzs : z.cells.size = 1) (hb64 : bytes ≤ 64)
    (base : Nat) (v : Value) (n : Nat) (xs : List Value) (hs : a.eval s = v) (hown : w.ownsRow base e 1 v n xs)
    {k : IntKind} {xv : Value} {ys : List Int} (hx : a.eval x = xv) (hr : Reads k w xv ys) (hn : n ≤ 1099511627776) (hm : ys.length ≤ 1099511627776) (hbase : base ≤ w.heap.size)
    (h : ∀ v' w', w'.ownsRow base e 1 v' (n + ys.length) (xs ++ ys.map (Value.int k)) → Below base w w' → wpList P ops Q rest (a.put o.dst v') w') : wpList P ops Q (o :: rest) a w := by
  obtain ⟨i, hi0, h1, h2, h3⟩ := info_parts hi
  have hr0 := hr
  obtain ⟨ao, len, c, rfl, el, hlc, hcm, hnone, _⟩ := hr
  subst el
  cases ao with
  | none =>
    obtain ⟨hl, rfl⟩ := hnone rfl
    have : ys = [] := List.eq_nil_of_length_eq_zero hl
    subst this
    refine wpList_append_own_none hgd s x t ho base e i 1 ht hi0 v n xs hs hown hx ?_
    exact h v w (by simpa using hown) (Below.refl _ _)
  | some ad =>
    refine wpList_append_own w hgd s x t ho base e i z 1 bytes ht hi0 h1 h2 h3 hzs (by decide) v n xs hs hown ad ys.length c (ys.map (Value.int k)) hx (by simp) (hr0.cells ad rfl) (ints_oneCell _ _) (by unfold maxLen; omega) ?_ hbase ?_
    · calc (n + ys.length) * bytes ≤ (1099511627776 + 1099511627776) * 64 := Nat.mul_le_mul (by omega) hb64
        _ ≤ _ := by decide
    · intro v' w' h2 h3 _
      exact h v' w' h2 ((Below.refl base w).grown h3 hbase (fun g hg => (hown.lt g hg).1))

theorem below_all {w w' : World} (h : Below w.heap.size w w') : ∀ i, i < w.heap.size → w'.heap[i]? = w.heap[i]? := fun i hi => h.block i hi
theorem below_grown {w w1 w2 : World} {g B : Nat} (h : Below w.heap.size w w1) (hg : w1.grownBy w2 (some g)) (hB : B ≤ g) (hw : w.heap.size ≤ B) : Below w.heap.size w w2 :=
  h.grown hg h.size (fun k hk => by cases hk; omega)
theorem below_drewN {w w1 : World} {B m : Nat} (h : Below B w w1) : Below B w (w1.drewN m) := h.trans ⟨rfl, rfl, rfl, Nat.le_refl _, fun _ _ => rfl⟩


theorem reads_take {k : IntKind} {w : World} {a : Option Addr} {n c m : Nat} {xs : List Int} (h : Reads k w (.slice a n c) xs) (hm : m ≤ n) : Reads k w (.slice a m c) (xs.take m) := by
  obtain ⟨a', len, cap, e, h1, h2, h3, h4, h5⟩ := h
  simp only [Value.slice.injEq] at e
  obtain ⟨rfl, rfl, rfl⟩ := e
  refine ⟨_, m, _, rfl, by simp; omega, by omega, h3, fun h => ⟨by have := (h4 h).1; omega, (h4 h).2⟩, fun ad had i hi => ?_⟩
  obtain ⟨h6, h7⟩ := h5 ad had i (by omega)
  refine ⟨h6, ?_⟩
  rw [h7]
  simp [List.getD_eq_getElem?_getD, hi]
theorem reads_slice {k : IntKind} {w : World} {v : Value} {xs : List Int} (h : Reads k w v xs) : ∃ a c, v = .slice a xs.length c := by
  obtain ⟨a', l', c', e1, e2, _⟩ := h
  exact ⟨a', c', by rw [e1, e2]⟩
theorem reads_some {k : IntKind} {w : World} {v : Value} {xs : List Int} (h : Reads k w v xs) (h0 : 0 < xs.length) : ∃ b o c, v = .slice (some ⟨b, o, none⟩) xs.length c := by
  obtain ⟨a, c, rfl⟩ := reads_slice h
  obtain ⟨b, o, rfl, _⟩ := h.cell 0 h0
  exact ⟨b, o, c, rfl⟩
theorem own_some {w : World} {B : Nat} {e : TypeId} {v : Value} {n : Nat} {xs : List Value} (h : w.ownsRow B e 1 v n xs) (h0 : 0 < n) : ∃ g c, v = .slice (some ⟨g, 0, none⟩) n c ∧ B ≤ g := by
  rcases h.2 with ⟨_, h2⟩ | ⟨g, cap, cur, rfl, hb, _⟩
  · omega
  · exact ⟨g, cap, rfl, hb⟩
end Go.Proofs.YtongpgnnhpbcpaaGreatDoor
namespace Go.Proofs.YtongpgnnhpbcpaaGreatDoor
open Go Go.RowKit
set_option linter.unusedVariables false

section
variable {α : Type} {f : α → List Value} {s : Nat}
theorem flatR_len (hf : ∀ a, (f a).length = s) : ∀ l : List α, (l.flatMap f).length = l.length * s
  | [] => by simp
  | a :: l => by rw [List.flatMap_cons, List.length_append, hf, flatR_len hf l, List.length_cons, Nat.succ_mul, Nat.add_comm]
theorem flatR_at (hf : ∀ a, (f a).length = s) (d : α) : ∀ (l : List α) (k j : Nat), k < l.length → j < s → (l.flatMap f)[k * s + j]? = (f (l.getD k d))[j]?
  | [], k, j, h, _ => by simp at h
  | a :: l, 0, j, _, hj => by
    rw [List.flatMap_cons, Nat.zero_mul, Nat.zero_add, List.getElem?_append_left (by rw [hf]; exact hj)]
    rfl
  | a :: l, k + 1, j, h, hj => by
    rw [List.flatMap_cons, List.getElem?_append_right (by rw [hf, Nat.succ_mul]; omega), hf, show (k + 1) * s + j - s = k * s + j by rw [Nat.succ_mul]; omega, flatR_at hf d l k j (by simpa using h) hj]
    rfl
theorem flatR_take (hf : ∀ a, (f a).length = s) : ∀ (l : List α) (k : Nat), (l.take k).flatMap f = (l.flatMap f).take (k * s)
  | [], k => by simp
  | a :: l, 0 => by simp
  | a :: l, k + 1 => by
    have e1 : (f a).take ((k + 1) * s) = f a := List.take_of_length_le (by rw [hf, Nat.succ_mul]; omega)
    have e2 : (k + 1) * s - (f a).length = k * s := by rw [hf, Nat.succ_mul]; omega
    rw [List.take_succ_cons, List.flatMap_cons, List.flatMap_cons, flatR_take hf l k, List.take_append, e1, e2]
theorem flatR_drop (hf : ∀ a, (f a).length = s) : ∀ (l : List α) (k : Nat), (l.drop k).flatMap f = (l.flatMap f).drop (k * s)
  | [], k => by simp
  | a :: l, 0 => by simp
  | a :: l, k + 1 => by
    have e1 : (f a).drop ((k + 1) * s) = [] := List.drop_eq_nil_of_le (by rw [hf, Nat.succ_mul]; omega)
    have e2 : (k + 1) * s - (f a).length = k * s := by rw [hf, Nat.succ_mul]; omega
    rw [List.drop_succ_cons, List.flatMap_cons, flatR_drop hf l k, List.drop_append, e1, e2, List.nil_append]
theorem flatR_set (hf : ∀ a, (f a).length = s) (l : List α) (k : Nat) (a : α) (hk : k < l.length) : (l.set k a).flatMap f = (l.flatMap f).take (k * s) ++ f a ++ (l.flatMap f).drop ((k + 1) * s) := by
  rw [List.set_eq_take_append_cons_drop, if_pos hk, List.flatMap_append, List.flatMap_cons, flatR_take hf, flatR_drop hf, List.append_assoc]

/-- The slice v reads as the elements l, each of them s cells. -/
def Row (f : α → List Value) (s : Nat) (w : World) (v : Value) (l : List α) : Prop :=
  ∃ a cap, v = .slice a l.length cap ∧ l.length ≤ cap ∧ cap ≤ maxLen ∧ (a = none → l.length = 0 ∧ cap = 0) ∧
    ∀ ad, a = some ad → ∀ i, i < l.length * s → ad.spot = none ∧ w.cell? ⟨ad.block, ad.off + i, none⟩ = (l.flatMap f)[i]?
theorem Row.nil (w : World) : Row f s w (.slice none 0 0) ([] : List α) :=
  ⟨none, 0, rfl, Nat.le_refl _, by simp, fun _ => ⟨rfl, rfl⟩, fun ad h => by cases h⟩
theorem row_slice {w : World} {v : Value} {l : List α} (h : Row f s w v l) : ∃ a c, v = .slice a l.length c := by
  obtain ⟨a, c, e, _⟩ := h
  exact ⟨a, c, e⟩
theorem row_cap {w : World} {a : Option Addr} {n c : Nat} {l : List α} (h : Row f s w (.slice a n c) l) : n = l.length ∧ n ≤ c ∧ c ≤ maxLen ∧ (a = none → n = 0 ∧ c = 0) := by
  obtain ⟨a', c', e, h1, h2, h3, _⟩ := h
  simp only [Value.slice.injEq] at e
  obtain ⟨rfl, rfl, rfl⟩ := e
  exact ⟨rfl, h1, h2, h3⟩
theorem Row.same (hf : ∀ a, (f a).length = s) {w w' : World} {v : Value} {l : List α} (h : Row f s w v l) (hb : ∀ i, i < w.heap.size → w'.heap[i]? = w.heap[i]?) : Row f s w' v l := by
  obtain ⟨a, cap, rfl, h1, h2, h3, h5⟩ := h
  refine ⟨a, cap, rfl, h1, h2, h3, fun ad had i hi => ?_⟩
  obtain ⟨h6, h7⟩ := h5 ad had i hi
  refine ⟨h6, ?_⟩
  have hlt : i < (l.flatMap f).length := by rw [flatR_len hf]; exact hi
  rw [← h7]
  refine World.cell?_of_block (hb _ (World.block_lt_of_cell? w _ (h7.trans (List.getElem?_eq_getElem hlt))))
theorem Row.below (hf : ∀ a, (f a).length = s) {w w' : World} {v : Value} {l : List α} {B : Nat} (h : Row f s w v l) (hb : Below B w w') (hB : w.heap.size ≤ B) : Row f s w' v l :=
  h.same hf fun i hi => hb.block i (by omega)
/-- An element's cells, in the form in which a walk comes to them. -/
theorem Row.at (hf : ∀ a, (f a).length = s) (d : α) {w : World} {a : Option Addr} {n c : Nat} {l : List α} (h : Row f s w (.slice a n c) l) (k : Nat) (hk : k < n) (hs : 0 < s) :
    ∃ b o, a = some ⟨b, o, none⟩ ∧ ∀ j, j < s → w.cell? ⟨b, o + (k * s + j), none⟩ = (f (l.getD k d))[j]? := by
  obtain ⟨a', c', e, h1, h2, h3, h5⟩ := h
  simp only [Value.slice.injEq] at e
  obtain ⟨rfl, rfl, rfl⟩ := e
  have hlt : ∀ j, j < s → k * s + j < l.length * s := fun j hj => by
    have : (k + 1) * s ≤ l.length * s := Nat.mul_le_mul_right _ hk
    rw [Nat.succ_mul] at this; omega
  cases a with
  | none => have := (h3 rfl).1; omega
  | some ad =>
    obtain ⟨b, o, sp⟩ := ad
    obtain ⟨h6, _⟩ := h5 _ rfl _ (hlt 0 hs)
    simp only at h6
    subst h6
    refine ⟨b, o, rfl, fun j hj => ?_⟩
    rw [(h5 _ rfl _ (hlt j hj)).2, flatR_at hf d l k j hk hj]
theorem row_of_own (hf : ∀ a, (f a).length = s) {w : World} {base : Nat} {e : TypeId} {v : Value} {l : List α} (h : w.ownsRow base e s v l.length (l.flatMap f)) : Row f s w v l := by
  obtain ⟨h1, h2⟩ := h
  rcases h2 with ⟨rfl, h0⟩ | ⟨g, cap, cur, rfl, hb, hg, hn, hc, hs, ht⟩
  · have : l = [] := List.eq_nil_of_length_eq_zero h0
    subst this
    exact Row.nil w
  · refine ⟨_, cap, rfl, hn, hc, (fun h => by cases h), fun ad had i hi => ?_⟩
    obtain rfl := Option.some.inj had
    refine ⟨rfl, ?_⟩
    simp only [Nat.zero_add]
    rw [cell_of_row _ _ _ _ _ _ hg, ← ht, List.getElem?_take, if_pos hi, Array.getElem?_toList]
theorem Row.cells {w : World} {ad : Addr} {n c : Nat} {l : List α} (hf : ∀ a, (f a).length = s) (h : Row f s w (.slice (some ad) n c) l) : ∀ j u, (l.flatMap f)[j]? = some u → w.cell? (ad.add j) = some u := by
  obtain ⟨a', c', e, h1, h2, h3, h5⟩ := h
  simp only [Value.slice.injEq] at e
  obtain ⟨rfl, rfl, rfl⟩ := e
  intro j u hu
  have hj : j < l.length * s := by rw [← flatR_len hf]; exact (List.getElem?_eq_some_iff.1 hu).1
  obtain ⟨h6, h7⟩ := h5 ad rfl j hj
  obtain ⟨b, o, sp⟩ := ad
  simp only at h6
  subst h6
  rw [hu] at h7
  simpa [Addr.add_lit] using h7
theorem row_take (hf : ∀ a, (f a).length = s) {w : World} {a : Option Addr} {n c k : Nat} {l : List α} (h : Row f s w (.slice a n c) l) (hk : k ≤ n) : Row f s w (.slice a k c) (l.take k) := by
  obtain ⟨a', c', e, h1, h2, h3, h5⟩ := h
  simp only [Value.slice.injEq] at e
  obtain ⟨rfl, rfl, rfl⟩ := e
  have hl : (l.take k).length = k := by simp; omega
  refine ⟨a, c, by rw [hl], by omega, h2, fun h => ⟨by have := (h3 h).1; omega, (h3 h).2⟩, fun ad had i hi => ?_⟩
  rw [hl] at hi
  obtain ⟨h6, h7⟩ := h5 ad had i (Nat.lt_of_lt_of_le hi (Nat.mul_le_mul_right _ hk))
  exact ⟨h6, by rw [h7, flatR_take hf, List.getElem?_take, if_pos hi]⟩
theorem row_drop (hf : ∀ a, (f a).length = s) {w : World} {b o n c k m c' : Nat} {l : List α} (h : Row f s w (.slice (some ⟨b, o, none⟩) n c) l) (hm : k + m = n) (hc : m ≤ c') (hc2 : c' ≤ c) :
    Row f s w (.slice (some ⟨b, o + k * s, none⟩) m c') (l.drop k) := by
  obtain ⟨a', cc, e, h1, h2, h3, h5⟩ := h
  simp only [Value.slice.injEq] at e
  obtain ⟨rfl, rfl, rfl⟩ := e
  have hl : (l.drop k).length = m := by simp; omega
  refine ⟨_, c', by rw [hl], by omega, by omega, (fun h => by cases h), fun ad had i hi => ?_⟩
  obtain rfl := Option.some.inj had
  rw [hl] at hi
  have hi2 : k * s + i < l.length * s := by
    have : (k + m) * s = k * s + m * s := Nat.add_mul _ _ _
    rw [hm] at this; omega
  obtain ⟨h6, h7⟩ := h5 _ rfl (k * s + i) hi2
  refine ⟨rfl, ?_⟩
  simp only [Nat.add_assoc] at h7 ⊢
  rw [h7, flatR_drop hf, List.getElem?_drop]
/-- 'l[k:]' as the machine has it: at the capacity the pointer stays, else it goes on. -/
theorem row_from (hf : ∀ a, (f a).length = s) {w : World} {a : Option Addr} {n c k : Nat} {l : List α} (h : Row f s w (.slice a n c) l) (hk : k ≤ n) :
    (c = k → Row f s w (.slice a (n - k) (c - k)) (l.drop k)) ∧ (∀ ad, a = some ad → Row f s w (.slice (some (ad.add (k * s))) (n - k) (c - k)) (l.drop k)) := by
  obtain ⟨a', cc, e, h1, h2, h3, h5⟩ := h
  simp only [Value.slice.injEq] at e
  obtain ⟨rfl, rfl, rfl⟩ := e
  have hl : (l.drop k).length = l.length - k := by simp
  refine ⟨fun hc => ⟨a, c - k, by rw [hl], by omega, by omega, fun _ => by omega, fun ad had i hi => ?_⟩, fun ad had => ⟨_, c - k, by rw [hl], by omega, by omega, (fun h => by cases h), fun ad' had' i hi => ?_⟩⟩
  · rw [hl, show l.length - k = 0 by omega] at hi
    omega
  · obtain rfl := Option.some.inj had'
    rw [hl] at hi
    have hi2 : k * s + i < l.length * s := by
      have : (k + (l.length - k)) * s = k * s + (l.length - k) * s := Nat.add_mul _ _ _
      rw [show k + (l.length - k) = l.length by omega] at this; omega
    obtain ⟨h6, h7⟩ := h5 _ had (k * s + i) hi2
    obtain ⟨b, o, sp⟩ := ad
    simp only at h6
    subst h6
    rw [Addr.add_lit]
    refine ⟨rfl, ?_⟩
    simp only [Nat.add_assoc] at h7 ⊢
    rw [h7, flatR_drop hf, List.getElem?_drop]
theorem row_new (hf : ∀ a, (f a).length = s) {w : World} {e : TypeId} (cs : Array Value) (l : List α) (n : Nat) (hn : l.length = n) (hc : cs = (l.flatMap f).toArray) (hm : n ≤ 1000000) : Row f s (w.alloc (.cells cs e)) (.slice (some ⟨w.heap.size, 0, none⟩) n n) l := by
  subst hc
  subst hn
  refine ⟨_, _, rfl, Nat.le_refl _, by unfold maxLen; omega, (fun h => by cases h), fun ad had i hi => ?_⟩
  obtain rfl := Option.some.inj had
  refine ⟨rfl, ?_⟩
  rw [World.cell?_alloc_at _ _ _ _ rfl, Nat.zero_add, List.getElem?_toArray]

/-- v is the call's own row of the elements l. -/
def OwnR (f : α → List Value) (s : Nat) (e : TypeId) (base : Nat) (w : World) (v : Value) (l : List α) : Prop := w.ownsRow base e s v l.length (l.flatMap f)
theorem OwnR.nil (e : TypeId) (base : Nat) (w : World) : OwnR f s e base w (.slice none 0 0) ([] : List α) := World.ownsRow_nil w base e s
theorem OwnR.row (hf : ∀ a, (f a).length = s) {e : TypeId} {base : Nat} {w : World} {v : Value} {l : List α} (h : OwnR f s e base w v l) : Row f s w v l := row_of_own hf h
theorem OwnR.alloc {e : TypeId} {base : Nat} {w : World} {v : Value} {l : List α} (h : OwnR f s e base w v l) (o : Obj) : OwnR f s e base (w.alloc o) v l := World.ownsRow.alloc h o
theorem OwnR.below {e : TypeId} {base B : Nat} {w w' : World} {v : Value} {l : List α} (h : OwnR f s e base w v l) (hb : Below B w w') (hB : w.heap.size ≤ B) : OwnR f s e base w' v l := own_below h hb hB
theorem own_from {w : World} {base B : Nat} {e : TypeId} {size : Nat} {v : Value} {n : Nat} {xs : List Value} (h : w.ownsRow base e size v n xs) (hB : B ≤ base) : w.ownsRow B e size v n xs := by
  obtain ⟨h1, h2⟩ := h
  refine ⟨h1, ?_⟩
  rcases h2 with h2 | ⟨g, cap, cur, hv, hg, r⟩
  · exact .inl h2
  · exact .inr ⟨g, cap, cur, hv, by omega, r⟩
theorem OwnR.from {e : TypeId} {base B : Nat} {w : World} {v : Value} {l : List α} (h : OwnR f s e base w v l) (hB : B ≤ base) : OwnR f s e B w v l := own_from h hB
/-- 'append(s, x...)', s of the call's own, x whatever it is. -/
theorem wpList_appR {P : Program} {w : World} {ops : Array Oper} {rest : List Oper} {o : Oper} {a : Act} {Q : Exit → Act → World → Prop} (hgd : o.guard = none) (sl x : Operand) (t : TypeId)
    (ho : o.op = .call { callee := .builtin .append, args := #[sl, x], argTypes := #[t, t] })
    (hf : ∀ a, (f a).length = s) (h1c : ∀ a, ∀ u ∈ f a, u.oneCell' = true) (hs0 : 0 < s)
    (e : TypeId) {z : Value} {bytes : Nat} (ht : P.underlying t = some (.slice e)) (hi : (P.info? e).map (fun i => (i.zero, i.size, i.bytes)) = some (some z, s, bytes)) (hzs : z.cells.size = s) (hb64 : bytes ≤ 4096)
    (base : Nat) (v : Value) (l : List α) (hs : a.eval sl = v) (hown : OwnR f s e base w v l)
    {xv : Value} {ys : List α} (hx : a.eval x = xv) (hr : Row f s w xv ys) (hn2 : l.length ≤ 1000000) (hm : ys.length ≤ 1000000) (hbase : base ≤ w.heap.size)
    (h : ∀ v' w', OwnR f s e base w' v' (l ++ ys) → Below base w w' → wpList P ops Q rest (a.put o.dst v') w') : wpList P ops Q (o :: rest) a w := by
  obtain ⟨i, hi0, h1, h2, h3⟩ := info_parts hi
  have hr0 := hr
  obtain ⟨ao, c, rfl, hlc, hcm, hnone, _⟩ := hr
  cases ao with
  | none =>
    obtain ⟨hl, rfl⟩ := hnone rfl
    have : ys = [] := List.eq_nil_of_length_eq_zero hl
    subst this
    refine wpList_append_own_none hgd sl x t ho base e i s ht hi0 v _ _ hs hown hx ?_
    exact h v w (by rw [List.append_nil]; exact hown) (Below.refl _ _)
  | some ad =>
    refine wpList_append_own w hgd sl x t ho base e i z s bytes ht hi0 h1 h2 h3 hzs hs0 v _ _ hs hown ad ys.length c (ys.flatMap f) hx (flatR_len hf ys) (hr0.cells hf) ?_ (by unfold maxLen; omega) ?_ hbase ?_
    · intro u hu
      obtain ⟨y, _, hy⟩ := List.mem_flatMap.1 hu
      exact h1c y u hy
    · calc (l.length + ys.length) * bytes ≤ (1000000 + 1000000) * 4096 := Nat.mul_le_mul (by omega) hb64
        _ ≤ _ := by decide
    · intro v' w' h2 h3 _
      exact h v' w' (by unfold OwnR; rw [List.flatMap_append, List.length_append]; exact h2) ((Below.refl base w).grown h3 hbase (fun g hg => (World.ownsRow.lt hown g hg).1))
/-- 'append(s, x)' of one element, s of the call's own; the element's cells lie in new memory. -/
theorem wpList_appR1 {P : Program} {w : World} {ops : Array Oper} {rest : List Oper} {o : Oper} {a : Act} {Q : Exit → Act → World → Prop} (hgd : o.guard = none) (sl x : Operand) (t : TypeId)
    (ho : o.op = .call { callee := .builtin .append, args := #[sl, x], argTypes := #[t, t] })
    (hf : ∀ a, (f a).length = s) (h1c : ∀ a, ∀ u ∈ f a, u.oneCell' = true) (hs0 : 0 < s)
    (e : TypeId) {z : Value} {bytes : Nat} (ht : P.underlying t = some (.slice e)) (hi : (P.info? e).map (fun i => (i.zero, i.size, i.bytes)) = some (some z, s, bytes)) (hzs : z.cells.size = s) (hb64 : bytes ≤ 4096)
    (base : Nat) (v : Value) (l : List α) (hs : a.eval sl = v) (hown : OwnR f s e base w v l)
    (y : α) (cs : Array Value) (hcs : cs = (f y).toArray) (n0 : Nat) (hx : a.eval x = .slice (some ⟨n0, 0, none⟩) 1 1) (hn0 : n0 = w.heap.size) (hn2 : l.length ≤ 1000000) (hbase : base ≤ w.heap.size)
    (h : ∀ v' w', OwnR f s e base w' v' (l ++ [y]) → Below base w w' → wpList P ops Q rest (a.put o.dst v') w') : wpList P ops Q (o :: rest) a (w.alloc (.cells cs e)) := by
  subst hn0
  refine wpList_appR hgd sl x t ho hf h1c hs0 e ht hi hzs hb64 base v l hs (hown.alloc _) (ys := [y]) hx (row_new hf cs [y] 1 rfl (by simpa using hcs) (by decide)) hn2 (by simp) (by simp; omega) ?_
  intro v' w' h2 h3
  exact h v' w' h2 (((Below.refl base w).alloc hbase _).trans h3)
/-- an element out of an array's value. -/
theorem flatR_extract (hf : ∀ a, (f a).length = s) (d : α) (l : List α) (k : Nat) (hk : k < l.length) : (l.flatMap f).toArray.extract (k * s) (k * s + s) = (f (l.getD k d)).toArray := by
  have hle : (k + 1) * s ≤ l.length * s := Nat.mul_le_mul_right _ hk
  rw [Nat.succ_mul] at hle
  have hl := flatR_len hf l
  apply Array.ext_getElem?
  intro j
  rw [Array.getElem?_extract, List.getElem?_toArray, List.getElem?_toArray]
  by_cases hj : j < s
  · rw [if_pos (by rw [List.size_toArray, hl]; omega), flatR_at hf d l k j hk hj]
  · rw [if_neg (by rw [List.size_toArray, hl]; omega), List.getElem?_eq_none (by rw [hf]; omega)]
theorem run_index_row {P : Program} (t e : TypeId) (n : Nat) (F : Array Value) (ki : IntKind) (k : Nat) (d : TypeDesc) (h : P.underlying t = some (.array n e)) (hk : k < n)
    (hd : (match d with | .struct _ | .array _ _ => true | _ => false) = true) (he : P.underlying e = some d) (hi : (P.info? e).map (·.size) = some s) (w : World) :
    (Instr.index t (.agg F) (.int ki (k : Int))).run P w = .ok (.agg (F.extract (k * s) (k * s + s))) w := by
  cases hq : P.info? e with
  | none => simp [hq] at hi
  | some i =>
    have hs : i.size = s := by simpa [hq] using hi
    have hagg : (isAgg e).run P w = .ok true w := by
      unfold isAgg
      rw [Sem.run_bind, run_underlying he w]
      cases d <;> simp_all
    simp [Instr.index, run_underlying h, asIntOf, part, sizeOf, typeInfo, hq, hs, hagg, Sem.run_bind]
    intro hh
    omega
end
end Go.Proofs.YtongpgnnhpbcpaaGreatDoor
namespace Go.Proofs.YtongpgnnhpbcpaaGreatDoor
open Go.RowKit
set_option linter.unusedVariables false

theorem div_part {k s j : Nat} (hj : j < s) : (k * s + j) / s = k ∧ (k * s + j) % s = j := by
  have hs : 0 < s := by omega
  constructor
  · rw [Nat.mul_comm, Nat.mul_add_div hs, Nat.div_eq_of_lt hj]; rfl
  · rw [Nat.mul_comm, Nat.mul_add_mod, Nat.mod_eq_of_lt hj]
theorem row_put {α : Type} {f : α → List Value} {s : Nat} (hf : ∀ a, (f a).length = s) (d : α) {w : World} {b o n c : Nat} {l : List α} (h : Row f s w (.slice (some ⟨b, o, none⟩) n c) l) (k : Nat) (hk : k < n) (j : Nat) (hj : j < s) (u : Value) (a' : α) (he : f a' = (f (l.getD k d)).set j u) :
    Row f s (w.setCell ⟨b, o + (k * s + j), none⟩ u) (.slice (some ⟨b, o, none⟩) n c) (l.set k a') := by
  obtain ⟨a0, c0, e, h1, h2, h3, h5⟩ := h
  simp only [Value.slice.injEq] at e
  obtain ⟨rfl, rfl, rfl⟩ := e
  refine ⟨some ⟨b, o, none⟩, c, by rw [List.length_set], by rw [List.length_set]; exact h1, h2, (fun q => by cases q), fun ad had i hi => ?_⟩
  obtain rfl := Option.some.inj had
  rw [List.length_set] at hi
  obtain ⟨_, h6⟩ := h5 _ rfl i hi
  simp only at h6
  have hs : 0 < s := by omega
  refine ⟨rfl, ?_⟩
  have hml := Nat.mod_lt i hs
  have hdl : i / s < l.length := Nat.div_lt_of_lt_mul (by rw [Nat.mul_comm]; exact hi)
  have ei : i / s * s + i % s = i := by rw [Nat.mul_comm]; exact Nat.div_add_mod i s
  have hold : (l.flatMap f)[i]? = (f (l.getD (i / s) d))[i % s]? := by
    have := flatR_at hf d l (i / s) (i % s) hdl hml
    rwa [ei] at this
  have hnew : ((l.set k a').flatMap f)[i]? = (f ((l.set k a').getD (i / s) d))[i % s]? := by
    have := flatR_at hf d (l.set k a') (i / s) (i % s) (by simpa using hdl) hml
    rwa [ei] at this
  rw [hnew]
  have hln := hf (l.getD k d)
  by_cases q0 : i = k * s + j
  · obtain ⟨q, q2⟩ := div_part (k := k) hj
    rw [← q0] at q q2
    have eg : (l.set k a').getD (i / s) d = a' := by rw [List.getD_eq_getElem?_getD, q, List.getElem?_set_self (by omega)]; rfl
    rw [eg, he, List.getElem?_set, if_pos q2.symm, if_pos (by omega), q0]
    obtain ⟨v0, hv0⟩ : ∃ v0, w.cell? ⟨b, o + i, none⟩ = some v0 := by
      rw [h6, hold, List.getElem?_eq_getElem (by rw [hf]; exact hml)]
      exact ⟨_, rfl⟩
    rw [q0] at hv0
    exact World.cell?_setCell_same _ _ u hv0
  · have ha : (⟨b, o + (k * s + j), none⟩ : Addr) ≠ ⟨b, o + i, none⟩ := fun z => q0 (by simp only [Addr.mk.injEq, true_and, and_true] at z; omega)
    show (w.setCell ⟨b, o + (k * s + j), none⟩ u).cell? ⟨b, o + i, none⟩ = _
    rw [World.cell?_setCell_other (h := ha), h6, hold]
    by_cases q : i / s = k
    · have eg : (l.set k a').getD (i / s) d = a' := by rw [List.getD_eq_getElem?_getD, q, List.getElem?_set_self (by omega)]; rfl
      have q2 : ¬ j = i % s := fun z => q0 (by rw [← ei, q, z])
      rw [eg, he, List.getElem?_set, if_neg q2, q]
    · have eg : (l.set k a').getD (i / s) d = l.getD (i / s) d := by
        rw [List.getD_eq_getElem?_getD, List.getElem?_set_ne (fun z => q z.symm), ← List.getD_eq_getElem?_getD]
      rw [eg]
end Go.Proofs.YtongpgnnhpbcpaaGreatDoor
namespace Go.Proofs.YtongpgnnhpbcpaaGreatDoor
open Go Go.RowKit
set_option linter.unusedVariables false

/-- a sector's cells. -/
def secV (xs : List Int) : List Value := xs.map (Value.int .u8)
theorem secV_len (xs : List Int) : (secV xs).length = xs.length := by simp [secV]
theorem secV_one (xs : List Int) : ∀ v ∈ secV xs, v.oneCell' = true := fun v hv => by
  obtain ⟨x, _, rfl⟩ := List.mem_map.1 hv
  rfl

/-- But for the blocks of S, all that was there is as it was. -/
structure Trd (S : Nat → Prop) (w w' : World) : Prop where
  os : w'.os = w.os
  tape : w'.tape = w.tape
  output : w'.output = w.output
  size : w.heap.size ≤ w'.heap.size
  block : ∀ k, k < w.heap.size → ¬ S k → w'.heap[k]? = w.heap[k]?
section
variable {S : Nat → Prop} {w w1 w2 : World}
theorem Trd.refl (S : Nat → Prop) (w : World) : Trd S w w := ⟨rfl, rfl, rfl, Nat.le_refl _, fun _ _ _ => rfl⟩
theorem Trd.trans (h : Trd S w w1) (k : Trd S w1 w2) : Trd S w w2 :=
  ⟨k.os.trans h.os, k.tape.trans h.tape, k.output.trans h.output, Nat.le_trans h.size k.size, fun i hi hn => (k.block i (Nat.lt_of_lt_of_le hi h.size) hn).trans (h.block i hi hn)⟩
theorem Trd.of_below {B : Nat} (h : Below B w w1) (hB : w.heap.size ≤ B) : Trd S w w1 := ⟨h.os, h.tape, h.output, h.size, fun i hi _ => h.block i (by omega)⟩
theorem Trd.below {B : Nat} (h : Trd S w w1) (hS : ∀ k, S k → B ≤ k) (hB : B ≤ w.heap.size) : Below B w w1 := ⟨h.os, h.tape, h.output, h.size, fun i hi => h.block i (by omega) fun hs => by have := hS i hs; omega⟩
theorem Trd.grown {row : Option Nat} (h : w.grownBy w1 row) (hr : ∀ k, row = some k → S k) : Trd S w w1 := ⟨h.os, h.tape, h.output, h.size, fun i hi hn => h.block i hi fun e => hn (hr i e.symm)⟩
theorem Trd.drew (w : World) : Trd S w w.drew := ⟨rfl, rfl, rfl, Nat.le_refl _, fun _ _ _ => rfl⟩
theorem Trd.alloc (w : World) (o : Obj) : Trd S w (w.alloc o) := Trd.of_below ((Below.refl _ w).alloc (Nat.le_refl _) o) (Nat.le_refl _)
theorem Trd.setCell (w : World) (a : Addr) (v : Value) (h : S a.block) : Trd S w (w.setCell a v) :=
  ⟨rfl, rfl, rfl, by simp [World.setCell], fun i hi hn => Below.heap_setCell _ _ _ _ fun e => hn (by rw [e]; exact h)⟩
theorem Trd.setCells {b : Nat} (h : S b) : ∀ (vs : List Value) (o : Nat) (w : World), Trd S w (w.setCells b o vs)
  | [], _, w => Trd.refl S w
  | v :: r, o, w => (Trd.setCell w ⟨b, o, none⟩ v h).trans (Trd.setCells h r (o + 1) _)
theorem Trd.mono {S' : Nat → Prop} (h : Trd S w w1) (hs : ∀ k, S k → S' k) : Trd S' w w1 := ⟨h.os, h.tape, h.output, h.size, fun i hi hn => h.block i hi fun hk => hn (hs i hk)⟩
end
theorem Reads.trd {k : IntKind} {S : Nat → Prop} {w w' : World} {v : Value} {xs : List Int} (h : Reads k w v xs) (ht : Trd S w w') (hv : ∀ b, v.ownBlock = some b → ¬ S b) : Reads k w' v xs := by
  obtain ⟨a, len, cap, rfl, h1, h2, h3, h4, h5⟩ := h
  refine ⟨a, len, cap, rfl, h1, h2, h3, h4, fun ad had i hi => ?_⟩
  obtain ⟨h6, h7⟩ := h5 ad had i hi
  refine ⟨h6, ?_⟩
  subst had
  rw [World.cell?_of_block (w := w) (ht.block _ (World.block_lt_of_cell? w _ h7) (hv _ rfl))]
  exact h7
/-- a cell of the struct is written. -/
theorem heap_setCell_row {w : World} {b o : Nat} {cs : Array Value} {t : TypeId} {fr : Nat × Nat} (h : w.heap[b]? = some (.cells cs t fr)) (v : Value) : (w.setCell ⟨b, o, none⟩ v).heap[b]? = some (.cells (cs.setIfInBounds o v) t fr) := by
  simp [World.setCell, Array.getElem?_modify, h]
theorem reads_block {k : IntKind} {w : World} {g : Nat} {xs : List Int} {e : TypeId} {n : Nat} (h : w.heap[g]? = some (.cells (xs.map (Value.int k)).toArray e (0, 0))) (hn : xs.length = n) (hm : n ≤ 1000000) : Reads k w (.slice (some ⟨g, 0, none⟩) n n) xs := by
  refine ⟨_, n, n, rfl, hn, Nat.le_refl _, by unfold maxLen; omega, (fun h => by cases h), fun ad had i hi => ?_⟩
  obtain rfl := Option.some.inj had
  refine ⟨rfl, ?_⟩
  simp only [Nat.zero_add]
  rw [cell_of_row _ _ _ _ _ _ h, List.getElem?_toArray, List.getElem?_map, List.getD_eq_getElem?_getD, List.getElem?_eq_getElem (by omega)]
  rfl
theorem whole_start {w w1 : World} {n : Nat} (hg : w.grownBy w1 none) (ho : w1.ownsRow w.heap.size 5 1 (.slice (some ⟨w.heap.size, 0, none⟩) n n) n (madeCells #[.int .u8 0] n).toList) :
    w1.heap[w.heap.size]? = some (.cells ((List.replicate n (0 : Int)).map (Value.int .u8)).toArray 5 (0, 0)) ∧ Below w.heap.size w w1 := by
  refine ⟨?_, (Below.refl _ w).grown hg (Nat.le_refl _) (fun k hk => by cases hk)⟩
  obtain ⟨h1, h2⟩ := ho
  rcases h2 with ⟨h2, _⟩ | ⟨g, cap, cur, hv, hb, hh, hn, hc, hs, ht⟩
  · cases h2
  · simp only [Value.slice.injEq, Option.some.injEq, Addr.mk.injEq, and_true, true_and] at hv
    obtain ⟨rfl, rfl⟩ := hv
    rw [hh]
    congr 2
    apply Array.ext'
    rw [List.take_of_length_le (by simp; omega), toList_madeCells_one] at ht
    rw [ht]
    simp
/-- block g holds these bytes. -/
def ByteAt (w : World) (g : Nat) (bs : List Int) : Prop := w.heap[g]? = some (.cells (secV bs).toArray 5 (0, 0))
theorem ByteAt.cell {w : World} {g : Nat} {bs : List Int} (h : ByteAt w g bs) {i : Nat} (hi : i < bs.length) : w.cell? ⟨g, i, none⟩ = some (.int .u8 (bs.getD i 0)) := by
  rw [cell_of_row _ _ _ _ _ _ h, List.getElem?_toArray, secV, List.getElem?_map, List.getD_eq_getElem?_getD, List.getElem?_eq_getElem hi]
  rfl
theorem ByteAt.frozen {w : World} {g : Nat} {bs : List Int} (h : ByteAt w g bs) (i : Nat) : w.frozen? ⟨g, i, none⟩ = false := by
  have := h
  unfold ByteAt at this
  simp [World.frozen?, this]
theorem ByteAt.set {w : World} {g : Nat} {bs : List Int} (h : ByteAt w g bs) (i : Nat) (x : Int) : ByteAt (w.setCell ⟨g, i, none⟩ (.int .u8 x)) g (bs.set i x) := by
  unfold ByteAt
  rw [heap_setCell_row h]
  simp [secV]
theorem ByteAt.block {w w' : World} {g : Nat} {bs : List Int} (h : ByteAt w g bs) (hb : w'.heap[g]? = w.heap[g]?) : ByteAt w' g bs := hb.trans h
theorem ByteAt.lt {w : World} {g : Nat} {bs : List Int} (h : ByteAt w g bs) : g < w.heap.size := (Array.getElem?_eq_some_iff.1 h).1
theorem reads_part {k : IntKind} {w : World} {b o n c m at_ c' : Nat} {xs : List Int} (h : Reads k w (.slice (some ⟨b, o, none⟩) n c) xs) (hm : at_ + m ≤ n) (hc : m ≤ c') (hc2 : c' ≤ c) : Reads k w (.slice (some ⟨b, o + at_, none⟩) m c') ((xs.drop at_).take m) := by
  obtain ⟨a', len, cap, e, h1, h2, h3, h4, h5⟩ := h
  simp only [Value.slice.injEq] at e
  obtain ⟨rfl, rfl, rfl⟩ := e
  refine ⟨_, m, _, rfl, by simp; omega, hc, Nat.le_trans hc2 h3, (fun h => by cases h), fun ad had i hi => ?_⟩
  obtain rfl := Option.some.inj had
  obtain ⟨h6, h7⟩ := h5 _ rfl (at_ + i) (by omega)
  refine ⟨rfl, ?_⟩
  simp only [Nat.add_assoc] at h7 ⊢
  rw [h7]
  simp [List.getD_eq_getElem?_getD, List.getElem?_drop, hi]
theorem bits_or64 (a b : Nat) (ha : a < 4611686018427387904) (hb : b < 4611686018427387904) (h : a ||| b < 4611686018427387904) : bits .or .i64 (a : Int) (b : Int) = ((a ||| b : Nat) : Int) := by
  have h1 : (BitVec.ofInt 64 (a : Int) ||| BitVec.ofInt 64 (b : Int)).toNat = a ||| b := by
    rw [BitVec.toNat_or, BitVec.ofInt_natCast, BitVec.ofInt_natCast, BitVec.toNat_ofNat, BitVec.toNat_ofNat, Nat.mod_eq_of_lt (by omega), Nat.mod_eq_of_lt (by omega)]
  show IntKind.i64.wrap (((BitVec.ofInt 64 (a : Int) ||| BitVec.ofInt 64 (b : Int)).toNat : Nat) : Int) = _
  rw [h1, IntKind.wrap_i64]
  omega
theorem ByteAt.reads {w : World} {g : Nat} {bs : List Int} {n : Nat} (h : ByteAt w g bs) (hn : bs.length = n) (hm : n ≤ 1000000) : Reads .u8 w (.slice (some ⟨g, 0, none⟩) n n) bs := reads_block h hn hm
theorem results_cell2 {P : Program} {fn : Func} {p u : Tmp} {ty : TypeId} (h : fn.results = #[.cell p ty, .tmp u]) (tmps : Array Value) (w : World) (g : Nat) (t : TypeId) (cs : Array Value) (fr : Nat × Nat) (d : TypeDesc)
    (hp : tmps.getD p undef = .pointer (some ⟨g, 0, none⟩)) (hg : w.heap[g]? = some (.cells cs t fr))
    (hu : P.underlying ty = some d) (hd : (match d with | .struct _ | .array _ _ => true | _ => false) = true) (hi : (P.info? ty).map (·.size) = some cs.size) :
    (results fn tmps).run P w = .ok (.tuple #[.agg cs, tmps.getD u undef]) w := by
  have hp' : tmps[p]?.getD undef = .pointer (some ⟨g, 0, none⟩) := by simpa using hp
  simp [results, h, hp', asAddr, run_loadVar_row w g t ty cs fr d hg hu hd hi]
theorem results_cell3 {P : Program} {fn : Func} {p u v : Tmp} {ty : TypeId} (h : fn.results = #[.cell p ty, .tmp u, .tmp v]) (tmps : Array Value) (w : World) (g : Nat) (t : TypeId) (cs : Array Value) (fr : Nat × Nat) (d : TypeDesc)
    (hp : tmps.getD p undef = .pointer (some ⟨g, 0, none⟩)) (hg : w.heap[g]? = some (.cells cs t fr))
    (hu : P.underlying ty = some d) (hd : (match d with | .struct _ | .array _ _ => true | _ => false) = true) (hi : (P.info? ty).map (·.size) = some cs.size) :
    (results fn tmps).run P w = .ok (.tuple #[.agg cs, tmps.getD u undef, tmps.getD v undef]) w := by
  have hp' : tmps[p]?.getD undef = .pointer (some ⟨g, 0, none⟩) := by simpa using hp
  simp [results, h, hp', asAddr, run_loadVar_row w g t ty cs fr d hg hu hd hi]
theorem reads_cap {k : IntKind} {w : World} {a : Option Addr} {n c : Nat} {xs : List Int} (h : Reads k w (.slice a n c) xs) : n ≤ c ∧ c ≤ maxLen := by
  obtain ⟨a', len, cap, e, h1, h2, h3, _⟩ := h
  simp only [Value.slice.injEq] at e
  obtain ⟨rfl, rfl, rfl⟩ := e
  exact ⟨h2, h3⟩
/-- several cells of a block are written. -/
theorem heap_setCells_row {b : Nat} {t : TypeId} {fr : Nat × Nat} : ∀ (vs : List Value) (o : Nat) (w : World) (F : List Value), o + vs.length ≤ F.length → w.heap[b]? = some (.cells F.toArray t fr) →
    (w.setCells b o vs).heap[b]? = some (.cells (F.take o ++ vs ++ F.drop (o + vs.length)).toArray t fr)
  | [], o, w, F, _, h => by
    simp only [World.setCells, List.append_nil, List.length_nil, Nat.add_zero, List.take_append_drop]
    exact h
  | v :: r, o, w, F, hl, h => by
    have hl' : o + (r.length + 1) ≤ F.length := by simpa using hl
    have h1 := heap_setCell_row (o := o) h v
    rw [show F.toArray.setIfInBounds o v = (F.set o v).toArray by simp] at h1
    have h2 := heap_setCells_row r (o + 1) _ _ (by rw [List.length_set]; omega) h1
    show ((w.setCell ⟨b, o, none⟩ v).setCells b (o + 1) r).heap[b]? = _
    rw [h2, List.set_eq_take_append_cons_drop, if_pos (by omega)]
    have hA : (F.take o).length = o := by rw [List.length_take]; omega
    have e1 : (F.take o ++ v :: F.drop (o + 1)).take (o + 1) = F.take o ++ [v] := by
      rw [List.take_append, hA, List.take_of_length_le (by omega), show o + 1 - o = 1 by omega]
      rfl
    have e2 : (F.take o ++ v :: F.drop (o + 1)).drop (o + 1 + r.length) = F.drop (o + (r.length + 1)) := by
      rw [List.drop_append, hA, List.drop_eq_nil_of_le (by omega), show o + 1 + r.length - o = r.length + 1 by omega, List.drop_succ_cons, List.drop_drop, List.nil_append, show o + 1 + r.length = o + (r.length + 1) by omega]
    rw [e1, e2]
    simp
/-- a row of several cells each, where other blocks are written. -/
theorem Row.trd {α : Type} {f : α → List Value} {s : Nat} (hf : ∀ a, (f a).length = s) {S : Nat → Prop} {w w' : World} {v : Value} {l : List α} (h : Row f s w v l) (ht : Trd S w w') (hv : ∀ b, v.ownBlock = some b → ¬ S b) : Row f s w' v l := by
  obtain ⟨a, cap, rfl, h1, h2, h3, h5⟩ := h
  refine ⟨a, cap, rfl, h1, h2, h3, fun ad had i hi => ?_⟩
  obtain ⟨h6, h7⟩ := h5 ad had i hi
  refine ⟨h6, ?_⟩
  have hlt : i < (l.flatMap f).length := by rw [flatR_len hf]; exact hi
  subst had
  rw [← h7]
  exact World.cell?_of_block (ht.block _ (World.block_lt_of_cell? w _ (h7.trans (List.getElem?_eq_getElem hlt))) (hv _ rfl))
theorem three_cells {w w' : World} {g k b : Nat} {u0 u1 u2 : Value} (ht : Trd (· = b) w w') (hg : g ≠ b) (hk : k ≠ b) (h0 : w.cell? ⟨g, 0, none⟩ = some u0) (h1 : w.cell? ⟨k, 0, none⟩ = some u1) (h2 : w.cell? ⟨k, 1, none⟩ = some u2) :
    w'.cell? ⟨g, 0, none⟩ = some u0 ∧ w'.cell? ⟨k, 0, none⟩ = some u1 ∧ w'.cell? ⟨k, 1, none⟩ = some u2 := by
  refine ⟨?_, ?_, ?_⟩
  · rw [World.cell?_of_block (w := w) (ht.block _ (World.block_lt_of_cell? w _ h0) hg)]; exact h0
  · rw [World.cell?_of_block (w := w) (ht.block _ (World.block_lt_of_cell? w _ h1) hk)]; exact h1
  · rw [World.cell?_of_block (w := w) (ht.block _ (World.block_lt_of_cell? w _ h2) hk)]; exact h2
/-- what lies behind all that was there counts for nothing. -/
theorem Trd.trans' {S S' : Nat → Prop} {w w1 w2 : World} (h : Trd S w w1) (k : Trd S' w1 w2) (hS : ∀ k, k < w.heap.size → ¬ S k → ¬ S' k) : Trd S w w2 :=
  ⟨k.os.trans h.os, k.tape.trans h.tape, k.output.trans h.output, Nat.le_trans h.size k.size, fun i hi hn => (k.block i (Nat.lt_of_lt_of_le hi h.size) (hS i hi hn)).trans (h.block i hi hn)⟩
end Go.Proofs.YtongpgnnhpbcpaaGreatDoor
namespace Go.Proofs.YtongpgnnhpbcpaaGreatDoor
open Go Go.RowKit
set_option linter.unusedVariables false

theorem mk_longs (n : Nat) (hn : n ≤ 1000000) (W : World) : (Instr.makeSlice 56 (.int .i64 n) (.int .i64 n)).run Tryz.prog W = .ok (.slice (some ⟨W.heap.size, 0, none⟩) n n) (W.alloc (.cells (Array.replicate n (.int .i64 0)) 2)) := by
  obtain ⟨i0, hi, hz0, hz1, hz2⟩ := info_parts (show (Tryz.prog.info? 2).map (fun i => (i.zero, i.size, i.bytes)) = some (some (.int .i64 0), 1, 8) by kernel_rfl)
  have := run_make (P := Tryz.prog) W 56 2 i0 _ Tryz.underlying56 hi hz0 .i64 .i64 n n (by omega) (by omega) (by rw [hz2]; omega) (by omega)
  rw [this, Int.toNat_natCast, hz1, Nat.mul_one]
  have e : madeCells (Value.int .i64 0).cells n = Array.replicate n (.int .i64 0) := by
    apply Array.ext'
    show (madeCells #[Value.int .i64 0] n).toList = _
    rw [toList_madeCells_one]
    simp
  rw [e]
/-- a row of numbers of 64 bits. -/
def LongAt (w : World) (g : Nat) (l : List Int) : Prop := w.heap[g]? = some (.cells (l.map (Value.int .i64)).toArray 2 (0, 0))
theorem LongAt.cell {w : World} {g : Nat} {l : List Int} (h : LongAt w g l) {i : Nat} (hi : i < l.length) : w.cell? ⟨g, i, none⟩ = some (.int .i64 (l.getD i 0)) := by
  rw [cell_of_row _ _ _ _ _ _ h, List.getElem?_toArray, List.getElem?_map, List.getD_eq_getElem?_getD, List.getElem?_eq_getElem hi]
  rfl
theorem LongAt.frozen {w : World} {g : Nat} {l : List Int} (h : LongAt w g l) (i : Nat) : w.frozen? ⟨g, i, none⟩ = false := by
  have := h
  unfold LongAt at this
  simp [World.frozen?, this]
theorem LongAt.set {w : World} {g : Nat} {l : List Int} (h : LongAt w g l) (i : Nat) (x : Int) : LongAt (w.setCell ⟨g, i, none⟩ (.int .i64 x)) g (l.set i x) := by
  unfold LongAt
  rw [heap_setCell_row h]
  simp
theorem LongAt.lt {w : World} {g : Nat} {l : List Int} (h : LongAt w g l) : g < w.heap.size := (Array.getElem?_eq_some_iff.1 h).1
theorem LongAt.below {w w' : World} {g : Nat} {l : List Int} {B : Nat} (h : LongAt w g l) (hb : Below B w w') (hB : w.heap.size ≤ B) : LongAt w' g l := by
  have hl := h.lt
  unfold LongAt at h ⊢
  rw [hb.block g (by omega)]
  exact h
theorem LongAt.reads {w : World} {g : Nat} {l : List Int} {n : Nat} (h : LongAt w g l) (hn : l.length = n) (hm : n ≤ 1000000) : Reads .i64 w (.slice (some ⟨g, 0, none⟩) n n) l := reads_block h hn hm
theorem longAt_new (w : World) (n : Nat) : LongAt (w.alloc (.cells (Array.replicate n (.int .i64 0)) 2)) w.heap.size (List.replicate n 0) := by
  unfold LongAt
  rw [heap_alloc_new w _]
  simp
end Go.Proofs.YtongpgnnhpbcpaaGreatDoor
namespace Go.Proofs.YtongpgnnhpbcpaaGreatDoor
open Go.RowKit
set_option linter.unusedVariables false

variable {α : Type} {f : α → List Value} {s : Nat}
/-- 'append(s, x...)', s of the call's own, x whatever it is. -/
theorem wpList_appRK {P : Program} {w : World} {ops : Array Oper} {rest : List Oper} {o : Oper} {a : Act} {Q : Exit → Act → World → Prop} (hgd : o.guard = none) (sl x : Operand) (t : TypeId)
    (ho : o.op = .call { callee := .builtin .append, args := #[sl, x], argTypes := #[t, t] })
    (hf : ∀ a, (f a).length = s) (h1c : ∀ a, ∀ u ∈ f a, u.oneCell' = true) (hs0 : 0 < s)
    (e : TypeId) {z : Value} {bytes : Nat} (ht : P.underlying t = some (.slice e)) (hi : (P.info? e).map (fun i => (i.zero, i.size, i.bytes)) = some (some z, s, bytes)) (hzs : z.cells.size = s) (hb64 : bytes ≤ 4096)
    (base : Nat) (v : Value) (l : List α) (hs : a.eval sl = v) (hown : OwnR f s e base w v l)
    {xv : Value} {ys : List α} (hx : a.eval x = xv) (hr : Row f s w xv ys) (hn2 : l.length ≤ 1000000) (hm : ys.length ≤ 1000000) (hbase : base ≤ w.heap.size)
    (h : ∀ v' w', OwnR f s e base w' v' (l ++ ys) → Below base w w' → Trd (fun k => v.ownBlock = some k) w w' → wpList P ops Q rest (a.put o.dst v') w') : wpList P ops Q (o :: rest) a w := by
  obtain ⟨i, hi0, h1, h2, h3⟩ := info_parts hi
  have hr0 := hr
  obtain ⟨ao, c, rfl, hlc, hcm, hnone, _⟩ := hr
  cases ao with
  | none =>
    obtain ⟨hl, rfl⟩ := hnone rfl
    have : ys = [] := List.eq_nil_of_length_eq_zero hl
    subst this
    refine wpList_append_own_none hgd sl x t ho base e i s ht hi0 v _ _ hs hown hx ?_
    exact h v w (by rw [List.append_nil]; exact hown) (Below.refl _ _) (Trd.refl _ _)
  | some ad =>
    refine wpList_append_own w hgd sl x t ho base e i z s bytes ht hi0 h1 h2 h3 hzs hs0 v _ _ hs hown ad ys.length c (ys.flatMap f) hx (flatR_len hf ys) (hr0.cells hf) ?_ (by unfold maxLen; omega) ?_ hbase ?_
    · intro u hu
      obtain ⟨y, _, hy⟩ := List.mem_flatMap.1 hu
      exact h1c y u hy
    · calc (l.length + ys.length) * bytes ≤ (1000000 + 1000000) * 4096 := Nat.mul_le_mul (by omega) hb64
        _ ≤ _ := by decide
    · intro v' w' h2 h3 _
      exact h v' w' (by unfold OwnR; rw [List.flatMap_append, List.length_append]; exact h2) ((Below.refl base w).grown h3 hbase (fun g hg => (World.ownsRow.lt hown g hg).1)) (Trd.grown h3 fun k e => e)
/-- 'append(s, x)' of one element, s of the call's own; the element's cells lie in new memory. -/
theorem wpList_appR1K {P : Program} {w : World} {ops : Array Oper} {rest : List Oper} {o : Oper} {a : Act} {Q : Exit → Act → World → Prop} (hgd : o.guard = none) (sl x : Operand) (t : TypeId)
    (ho : o.op = .call { callee := .builtin .append, args := #[sl, x], argTypes := #[t, t] })
    (hf : ∀ a, (f a).length = s) (h1c : ∀ a, ∀ u ∈ f a, u.oneCell' = true) (hs0 : 0 < s)
    (e : TypeId) {z : Value} {bytes : Nat} (ht : P.underlying t = some (.slice e)) (hi : (P.info? e).map (fun i => (i.zero, i.size, i.bytes)) = some (some z, s, bytes)) (hzs : z.cells.size = s) (hb64 : bytes ≤ 4096)
    (base : Nat) (v : Value) (l : List α) (hs : a.eval sl = v) (hown : OwnR f s e base w v l)
    (y : α) (cs : Array Value) (hcs : cs = (f y).toArray) (n0 : Nat) (hx : a.eval x = .slice (some ⟨n0, 0, none⟩) 1 1) (hn0 : n0 = w.heap.size) (hn2 : l.length ≤ 1000000) (hbase : base ≤ w.heap.size)
    (h : ∀ v' w', OwnR f s e base w' v' (l ++ [y]) → Below base w w' → Trd (fun k => v.ownBlock = some k) w w' → wpList P ops Q rest (a.put o.dst v') w') : wpList P ops Q (o :: rest) a (w.alloc (.cells cs e)) := by
  subst hn0
  refine wpList_appRK hgd sl x t ho hf h1c hs0 e ht hi hzs hb64 base v l hs (hown.alloc _) (ys := [y]) hx (row_new hf cs [y] 1 rfl (by simpa using hcs) (by decide)) hn2 (by simp) (by simp; omega) ?_
  intro v' w' h2 h3 h4
  exact h v' w' h2 (((Below.refl base w).alloc hbase _).trans h3) ((Trd.alloc w _).trans h4)
end Go.Proofs.YtongpgnnhpbcpaaGreatDoor
namespace Go.Proofs.YtongpgnnhpbcpaaGreatDoor
open Go Go.RowKit

theorem step_app {P : Program} {w : World} {ops : Array Oper} {o : Oper} {a : Act} {K : Act → World → Prop} {Q : Exit → Act → World → Prop} {E : Prop} (hgd : o.guard = none) (s x : Operand) (t : TypeId)
    (ho : o.op = .call { callee := .builtin .append, args := #[s, x], argTypes := #[t, t] })
    (e : TypeId) {z : Value} {bytes : Nat} (ht : P.underlying t = some (.slice e)) (hi : (P.info? e).map (fun i => (i.zero, i.size, i.bytes)) = some (some z, 1, bytes)) (hzs : z.cells.size = 1) (hb64 : bytes ≤ 64)
    (base : Nat) (v : Value) (n : Nat) (xs : List Value) (hs : a.eval s = v) (hown : w.ownsRow base e 1 v n xs)
    {k : IntKind} {xv : Value} {ys : List Int} (hx : a.eval x = xv) (hr : Reads k w xv ys) (hn : n ≤ 1099511627776) (hm : ys.length ≤ 1099511627776) (hbase : base ≤ w.heap.size)
    (h : ∀ v' w', w'.ownsRow base e 1 v' (n + ys.length) (xs ++ ys.map (Value.int k)) → Below base w w' → K (a.put o.dst v') w') :
    if Region.wanted o (yielded ops a.tmps) = true then Oper.wp P o a w K Q else E := by
  have hw : Region.wanted o (yielded ops a.tmps) = true := by simp [Region.wanted, hgd]
  rw [if_pos hw]
  obtain ⟨i, hi0, h1, h2, h3⟩ := info_parts hi
  have hr0 := hr
  obtain ⟨ao, len, c, rfl, el, hlc, hcm, hnone, _⟩ := hr
  subst el
  cases ao with
  | none =>
    obtain ⟨hl, rfl⟩ := hnone rfl
    have : ys = [] := List.eq_nil_of_length_eq_zero hl
    subst this
    have hrun := run_append_owned_none (P := P) (w := w) base t o.type e i 1 ht hi0 v n xs hown
    unfold Oper.wp execOp
    simp only [ho, resolve, invoke, builtin, Sem.run_bind, Sem.run_pure, Result.andThen_ok, List.map_toArray, List.map_cons, List.map_nil, hs, hx, List.length_nil, hrun]
    exact h v w (by simpa using hown) (Below.refl _ _)
  | some ad =>
    have hby : (n + ys.length) * bytes ≤ 140737488355328 := by
      calc (n + ys.length) * bytes ≤ (1099511627776 + 1099511627776) * 64 := Nat.mul_le_mul (by omega) hb64
        _ ≤ _ := by decide
    obtain ⟨v', w', hrun, g2, g3, _⟩ := run_append_own (P := P) (w := w) base t o.type e i z 1 bytes ht hi0 h1 h2 h3 hzs (by decide) v n xs hown ad ys.length c (ys.map (Value.int k)) (by simp) (hr0.cells ad rfl) (ints_oneCell _ _) (by unfold maxLen; omega) hby hbase
    unfold Oper.wp execOp
    simp only [ho, resolve, invoke, builtin, Sem.run_bind, Sem.run_pure, Result.andThen_ok, List.map_toArray, List.map_cons, List.map_nil, hs, hx, hrun]
    exact h v' w' g2 ((Below.refl base w).grown g3 hbase (fun g hg => (hown.lt g hg).1))
/-- .. where elements are several cells. -/
theorem step_appR {α : Type} {f : α → List Value} {s : Nat} {P : Program} {w : World} {ops : Array Oper} {o : Oper} {a : Act} {K : Act → World → Prop} {Q : Exit → Act → World → Prop} {E : Prop} (hgd : o.guard = none) (sl x : Operand) (t : TypeId)
    (ho : o.op = .call { callee := .builtin .append, args := #[sl, x], argTypes := #[t, t] })
    (hf : ∀ a, (f a).length = s) (h1c : ∀ a, ∀ u ∈ f a, u.oneCell' = true) (hs0 : 0 < s)
    (e : TypeId) {z : Value} {bytes : Nat} (ht : P.underlying t = some (.slice e)) (hi : (P.info? e).map (fun i => (i.zero, i.size, i.bytes)) = some (some z, s, bytes)) (hzs : z.cells.size = s) (hb64 : bytes ≤ 4096)
    (base : Nat) (v : Value) (l : List α) (hs : a.eval sl = v) (hown : OwnR f s e base w v l)
    {xv : Value} {ys : List α} (hx : a.eval x = xv) (hr : Row f s w xv ys) (hn2 : l.length ≤ 1000000) (hm : ys.length ≤ 1000000) (hbase : base ≤ w.heap.size)
    (h : ∀ v' w', OwnR f s e base w' v' (l ++ ys) → Below base w w' → K (a.put o.dst v') w') :
    if Region.wanted o (yielded ops a.tmps) = true then Oper.wp P o a w K Q else E := by
  have hw : Region.wanted o (yielded ops a.tmps) = true := by simp [Region.wanted, hgd]
  rw [if_pos hw]
  obtain ⟨i, hi0, h1, h2, h3⟩ := info_parts hi
  have hr0 := hr
  obtain ⟨ao, c, rfl, hlc, hcm, hnone, _⟩ := hr
  cases ao with
  | none =>
    obtain ⟨hl, rfl⟩ := hnone rfl
    have : ys = [] := List.eq_nil_of_length_eq_zero hl
    subst this
    have hrun := run_append_owned_none (P := P) (w := w) base t o.type e i s ht hi0 v _ _ hown
    unfold Oper.wp execOp
    simp only [ho, resolve, invoke, builtin, Sem.run_bind, Sem.run_pure, Result.andThen_ok, List.map_toArray, List.map_cons, List.map_nil, hs, hx, List.length_nil, hrun]
    exact h v w (by rw [List.append_nil]; exact hown) (Below.refl _ _)
  | some ad =>
    have hby : (l.length + ys.length) * bytes ≤ 140737488355328 := by
      calc (l.length + ys.length) * bytes ≤ (1000000 + 1000000) * 4096 := Nat.mul_le_mul (by omega) hb64
        _ ≤ _ := by decide
    have hone : ∀ u ∈ ys.flatMap f, u.oneCell' = true := fun u hu => by
      obtain ⟨y, _, hy⟩ := List.mem_flatMap.1 hu
      exact h1c y u hy
    obtain ⟨v', w', hrun, g2, g3, _⟩ := run_append_own (P := P) (w := w) base t o.type e i z s bytes ht hi0 h1 h2 h3 hzs hs0 v _ _ hown ad ys.length c (ys.flatMap f) (flatR_len hf ys) (hr0.cells hf) hone (by unfold maxLen; omega) hby hbase
    unfold Oper.wp execOp
    simp only [ho, resolve, invoke, builtin, Sem.run_bind, Sem.run_pure, Result.andThen_ok, List.map_toArray, List.map_cons, List.map_nil, hs, hx, hrun]
    exact h v' w' (by unfold OwnR; rw [List.flatMap_append, List.length_append]; exact g2) ((Below.refl base w).grown g3 hbase (fun g hg => (World.ownsRow.lt hown g hg).1))
end Go.Proofs.YtongpgnnhpbcpaaGreatDoor
namespace Go.Proofs.YtongpgnnhpbcpaaGreatDoor
open Go Go.RowKit

/-- an operation that is struck, taken first. -/
theorem take_struck {P : Program} {md : Region.Mode} {ops : Array Oper} {Q : Exit → Act → World → Prop} {S : World → Prop} {fuel : Nat} {listed : Array Bool} {a : Act} {w : World} (i d : Nat) {oi : Oper} (hi : ops[i]? = some oi) (hd : oi.dst = some d)
    (hs : Region.noSelect ops = true) (hf : Region.free md ops listed i = true) (hr : (Region.ready md ops listed).contains i = true)
    (hQ : ∀ c a w, Q (.panic c) (a.put (some d) undef) w → Q (.panic c) a w) (hy : Region.wanted oi (yielded ops a.tmps) = false) (hS : S w)
    (h : wpAnyH P md ops Q S fuel (listed.setIfInBounds i true) (a.put (some d) undef) w) : wpAnyH P md ops Q S (fuel + 1) listed a w := by
  rw [← hd] at hQ h
  exact wpAnyH_take hi hs hf hr hQ (.inr ⟨hy, rfl⟩) hS h
/-- one that reads at most, taken first. -/
theorem take_plain {P : Program} {md : Region.Mode} {ops : Array Oper} {Q : Exit → Act → World → Prop} {S : World → Prop} {fuel : Nat} {listed : Array Bool} {a : Act} {w : World} (i d : Nat) (v : Value) {oi : Oper} (hi : ops[i]? = some oi) (hd : oi.dst = some d)
    (hs : Region.noSelect ops = true) (hf : Region.free md ops listed i = true) (hr : (Region.ready md ops listed).contains i = true)
    (hQ : ∀ c a w, Q (.panic c) (a.put (some d) v) w → Q (.panic c) a w) (hw : Region.wanted oi (yielded ops a.tmps) = true) (hy : ∀ w, S w → (execOp a.eval oi).run P w = .ok (.value v) w) (hS : S w)
    (h : wpAnyH P md ops Q S fuel (listed.setIfInBounds i true) (a.put (some d) v) w) : wpAnyH P md ops Q S (fuel + 1) listed a w := by
  rw [← hd] at hQ h
  exact wpAnyH_take hi hs hf hr hQ (.inl ⟨hw, hy⟩) hS h
end Go.Proofs.YtongpgnnhpbcpaaGreatDoor
namespace Go.Proofs.YtongpgnnhpbcpaaGreatDoor
open Go.RowKit

end Go.Proofs.YtongpgnnhpbcpaaGreatDoor
