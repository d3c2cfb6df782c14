/-
  The places in order: insertion into a row; slices.SortStableFunc of at most twenty; cheapestFirst.
-/
import Derived.Test.YtodhoblacalbiaaDoorLots6
namespace Go.Proofs.YtodhoblacalbiaaDoor
open Go.RowKit
set_option linter.unusedVariables false

def nats (l : List Nat) : List Int := l.map fun n : Nat => (n : Int)
theorem nats_len (l : List Nat) : (nats l).length = l.length := List.length_map _
theorem nats_at (l : List Nat) (i : Nat) : (nats l).getD i 0 = ((l.getD i 0 : Nat) : Int) := by
  unfold nats
  rw [List.getD_eq_getElem?_getD, List.getD_eq_getElem?_getD, List.getElem?_map]
  cases l[i]? <;> rfl
theorem nats_set (l : List Nat) (i x : Nat) : (nats l).set i (x : Int) = nats (l.set i x) := by
  unfold nats
  rw [List.map_set]
def isL (L : List Lt) (n k : Nat) : List Nat := ordTo L k ++ (List.range n).drop k
def isJ (L : List Lt) (n k j : Nat) : List Nat := (ordTo L k).take j ++ k :: (ordTo L k).drop j ++ (List.range n).drop (k + 1)
theorem isJ_start (L : List Lt) {n k : Nat} (h : k < n) : isJ L n k k = isL L n k := by
  unfold isJ isL
  have e := ordTo_len L k
  have e1 : (ordTo L k).take k = ordTo L k := List.take_of_length_le (by omega)
  have e2 : (ordTo L k).drop k = [] := List.drop_of_length_le (by omega)
  have e3 : (List.range n).drop k = k :: (List.range n).drop (k + 1) := by
    rw [List.drop_eq_getElem_cons (by rw [List.length_range]; exact h), List.getElem_range]
  rw [e1, e2, e3]
  simp
theorem isJ_end (L : List Lt) {n k j : Nat} (h : insAt L (ordTo L k) k k = j) : isJ L n k j = isL L n (k + 1) := by
  unfold isJ isL
  show _ = ins L (ordTo L k) k ++ _
  unfold ins
  rw [ordTo_len, h]
theorem isJ_len (L : List Lt) {n k j : Nat} (h : k < n) (hj : j ≤ k) : (isJ L n k j).length = n := by
  have e := ordTo_len L k
  unfold isJ
  simp
  omega
theorem isJ_at (L : List Lt) {n k j : Nat} (hj : j ≤ k) : (isJ L n k j).getD j 0 = k := by
  have e := ordTo_len L k
  have e2 : ((ordTo L k).take j).length = j := by rw [List.length_take]; omega
  unfold isJ
  rw [List.getD_eq_getElem?_getD, List.append_assoc, List.getElem?_append_right (by omega), e2, Nat.sub_self]
  rfl
theorem isJ_prev (L : List Lt) {n k p : Nat} (hp : p < k) : (isJ L n k (p + 1)).getD p 0 = (ordTo L k).getD p 0 := by
  have e := ordTo_len L k
  have e2 : ((ordTo L k).take (p + 1)).length = p + 1 := by rw [List.length_take]; omega
  unfold isJ
  rw [List.getD_eq_getElem?_getD, List.getD_eq_getElem?_getD, List.append_assoc, List.getElem?_append_left (by omega), List.getElem?_take, if_pos (by omega)]
theorem isJ_swap (L : List Lt) {n k p : Nat} (hp : p < k) : ((isJ L n k (p + 1)).set (p + 1) ((ordTo L k).getD p 0)).set p k = isJ L n k p := swap_at (ordTo L k) _ k p (by rw [ordTo_len]; exact hp)
theorem isL_one (L : List Lt) {n : Nat} (h : 1 ≤ n) : List.range n = isL L n 1 := by
  have e : isL L n 0 = List.range n := by unfold isL ordTo; simp
  rw [← e, ← isJ_start L (k := 0) (by omega)]
  exact isJ_end L rfl
theorem isL_end (L : List Lt) (n : Nat) : isL L n n = ordTo L n := by
  unfold isL
  rw [List.drop_of_length_le (by rw [List.length_range]; exact Nat.le_refl _), List.append_nil]
abbrev inTy : TypeId := 3
def IsRel1 (L : List Lt) (n gb : Nat) (w0 : World) (i : Value) (w : World) : Prop := ∃ k : Nat, 1 ≤ k ∧ k ≤ n ∧ i = .int .i64 (k : Int) ∧ NumAt inTy w gb (nats (isL L n k)) ∧ Below w0.heap.size w0 w
def IsRel2 (L : List Lt) (n k gb : Nat) (w0 : World) (i : Value) (w : World) : Prop := ∃ j : Nat, j ≤ k ∧ i = .int .i64 (j : Int) ∧ insAt L (ordTo L k) k k = insAt L (ordTo L k) k j ∧ NumAt inTy w gb (nats (isJ L n k j)) ∧ Below w0.heap.size w0 w
theorem insAt_more {L : List Lt} {s : List Nat} {x p : Nat} (h : dear (L.getD (s.getD p 0) ltZ) (L.getD x ltZ) = true) : insAt L s x (p + 1) = insAt L s x p := by rw [insAt, if_pos h]
theorem insAt_stop {L : List Lt} {s : List Nat} {x p : Nat} (h : dear (L.getD (s.getD p 0) ltZ) (L.getD x ltZ) = false) : insAt L s x (p + 1) = p + 1 := by rw [insAt, if_neg (by rw [h]; decide)]
theorem numAt_next {T : TypeId} {w W : World} {g : Nat} {l : List Int} (h : NumAt T w g l) (hb : Below w.heap.size w W) : NumAt T W g l := h.below hb (Nat.le_refl _)
abbrev IsS (w0 : World) (gb j p : Nat) (x y : Int) (l : List Int) (W : World) : Prop := W.cell? ⟨gb, j, none⟩ = some (.int .i64 x) ∧ W.cell? ⟨gb, p, none⟩ = some (.int .i64 y) ∧ NumAt inTy W gb l ∧ Below w0.heap.size w0 W
theorem isS_drew {w0 W : World} {gb j p : Nat} {x y : Int} {l : List Int} (h : IsS w0 gb j p x y l W) : IsS w0 gb j p x y l W.drew := ⟨h.1, h.2.1, h.2.2.1.drew, h.2.2.2.drew⟩
theorem isS_next {w0 W W' : World} {gb j p : Nat} {x y : Int} {l : List Int} (h : IsS w0 gb j p x y l W) (hb : Below W.heap.size W W') : IsS w0 gb j p x y l W' := by
  have hlt := h.2.2.1.lt
  refine ⟨?_, ?_, h.2.2.1.below hb (Nat.le_refl _), h.2.2.2.trans (hb.mono h.2.2.2.size)⟩
  · rw [World.cell?_of_block (w := W) (hb.block gb hlt)]; exact h.1
  · rw [World.cell?_of_block (w := W) (hb.block gb hlt)]; exact h.2.1
end Go.Proofs.YtodhoblacalbiaaDoor
