/-
  Keys and records as plain lists: a number's bytes, the highest first, and back; how lists of bytes stand; what numbers are read out of bytes, one behind the other.
-/
import Derived.Test.YtongpgnnhpbcpaaGreatDoorMath
namespace Go.Proofs.YtongpgnnhpbcpaaGreatDoor
open Go Go.RowKit

/-- the lowest k bytes of a number, the highest first. -/
def beb : Nat → Int → List Int
  | 0, _ => []
  | k + 1, n => (n / 256 ^ k % 256) :: beb k n
/-- back. -/
def unbe (l : List Int) : Int := l.foldl (fun a x => a * 256 + x) 0
theorem beb_len : ∀ k n, (beb k n).length = k
  | 0, _ => rfl
  | k + 1, n => by simp [beb, beb_len k n]
theorem beb_byte : ∀ k n, ∀ x ∈ beb k n, 0 ≤ x ∧ x ≤ 255
  | 0, _, x, h => by simp [beb] at h
  | k + 1, n, x, h => by
    rcases List.mem_cons.1 h with rfl | h
    · omega
    · exact beb_byte k n x h
theorem beb_at : ∀ (m : Nat) (n : Int) (k : Nat), k < m → (beb m n)[k]? = some (n / 256 ^ (m - 1 - k) % 256)
  | 0, _, _, h => by omega
  | m + 1, n, 0, _ => by simp [beb]
  | m + 1, n, k + 1, h => by
    have := beb_at m n k (by omega)
    rw [beb, List.getElem?_cons_succ, this, show m + 1 - 1 - (k + 1) = m - 1 - k by omega]
theorem beb_take (m : Nat) (n : Int) (k : Nat) (h : k < m) : (beb m n).take (k + 1) = (beb m n).take k ++ [n / 256 ^ (m - 1 - k) % 256] := by
  have e := beb_at m n k h
  rw [List.take_add_one, e]
  rfl
theorem beb_set {A B C : List Int} {n : Int} {k : Nat} (h : k < B.length) : (A ++ (beb B.length n).take k ++ B.drop k ++ C).set (A.length + k) (n / 256 ^ (B.length - 1 - k) % 256) = A ++ (beb B.length n).take (k + 1) ++ B.drop (k + 1) ++ C := by
  rw [beb_take _ _ _ h, List.drop_eq_getElem_cons h]
  have hl : ((beb B.length n).take k).length = k := by rw [List.length_take, beb_len]; omega
  generalize B[k] = y
  generalize B.drop (k + 1) = r
  generalize n / 256 ^ (B.length - 1 - k) % 256 = z
  generalize (beb B.length n).take k = t at *
  rw [List.append_assoc (A ++ t), List.set_append_right _ _ (by simp [hl])]
  simp [hl]
theorem unbe_snoc (l : List Int) (x : Int) : unbe (l ++ [x]) = unbe l * 256 + x := by simp [unbe]
theorem unbe_take {bs : List Int} {k : Nat} (h : k < bs.length) : unbe (bs.take (k + 1)) = unbe (bs.take k) * 256 + bs.getD k 0 := by
  rw [List.take_succ_eq_append_getElem h, unbe_snoc, List.getD_eq_getElem?_getD, List.getElem?_eq_getElem h]
  rfl
theorem foldl_be (l : List Int) : ∀ a : Int, l.foldl (fun a x => a * 256 + x) a = a * 256 ^ l.length + unbe l := by
  induction l with
  | nil => intro a; simp [unbe]
  | cons x l ih =>
    intro a
    have e : unbe (x :: l) = x * 256 ^ l.length + unbe l := by
      show l.foldl (fun a x => a * 256 + x) (0 * 256 + x) = _
      rw [ih]; simp
    rw [List.foldl_cons, ih, e, List.length_cons, Int.pow_succ]
    grind
theorem unbe_cons (x : Int) (l : List Int) : unbe (x :: l) = x * 256 ^ l.length + unbe l := by
  show l.foldl (fun a x => a * 256 + x) (0 * 256 + x) = _
  rw [foldl_be]; simp
theorem unbe_append (l m : List Int) : unbe (l ++ m) = unbe l * 256 ^ m.length + unbe m := by
  show (l ++ m).foldl (fun a x => a * 256 + x) 0 = _
  rw [List.foldl_append, foldl_be]; rfl
theorem unbe_lo : ∀ (l : List Int), (∀ x ∈ l, 0 ≤ x ∧ x ≤ 255) → 0 ≤ unbe l
  | [], _ => by simp [unbe]
  | x :: l, h => by
    rw [unbe_cons]
    have h1 := unbe_lo l fun y hy => h y (List.mem_cons_of_mem _ hy)
    have h2 := (h x (by simp)).1
    have h3 : (0 : Int) ≤ 256 ^ l.length := Int.le_of_lt (Int.pow_pos (by decide))
    have := Int.mul_nonneg h2 h3
    omega
theorem unbe_hi : ∀ (l : List Int), (∀ x ∈ l, 0 ≤ x ∧ x ≤ 255) → unbe l < 256 ^ l.length
  | [], _ => by simp [unbe]
  | x :: l, h => by
    rw [unbe_cons, List.length_cons, Int.pow_succ]
    have h1 := unbe_hi l fun y hy => h y (List.mem_cons_of_mem _ hy)
    have h2 := (h x (by simp)).2
    generalize unbe l = u at *
    have h3 : (0 : Int) ≤ 256 ^ l.length := Int.le_of_lt (Int.pow_pos (by decide))
    generalize (256 : Int) ^ l.length = M at *
    have := Int.mul_le_mul_of_nonneg_right h2 h3
    omega
/-- of two lists the one with the lesser byte, where they part, is the lesser number. -/
theorem unbe_part {p s t : List Int} {x y : Int} (hl : s.length = t.length) (hs : ∀ z ∈ s, 0 ≤ z ∧ z ≤ 255) (ht : ∀ z ∈ t, 0 ≤ z ∧ z ≤ 255) (hxy : x < y) : unbe (p ++ x :: s) < unbe (p ++ y :: t) := by
  rw [unbe_append, unbe_append, unbe_cons, unbe_cons, List.length_cons, List.length_cons, hl]
  have h1 := unbe_hi s hs
  have h2 := unbe_lo t ht
  rw [hl] at h1
  generalize unbe s = u at *
  generalize unbe t = v at *
  generalize unbe p * 256 ^ (t.length + 1) = q
  have h3 : (0 : Int) ≤ 256 ^ t.length := Int.le_of_lt (Int.pow_pos (by decide))
  generalize (256 : Int) ^ t.length = M at *
  have := Int.mul_le_mul_of_nonneg_right (show x + 1 ≤ y by omega) h3
  have e : (x + 1) * M = x * M + M := by grind
  omega
theorem split_at (l : List Int) (k : Nat) (h : k < l.length) : l = l.take k ++ l.getD k 0 :: l.drop (k + 1) := by
  have e := List.take_append_drop k l
  rw [List.drop_eq_getElem_cons h] at e
  rw [List.getD_eq_getElem?_getD, List.getElem?_eq_getElem h]
  exact e.symm
/-- where two lists of one length part first. -/
theorem unbe_first {xs ys : List Int} {k : Nat} (hl : xs.length = ys.length) (h : k < xs.length) (ht : xs.take k = ys.take k) (hx : ∀ z ∈ xs, 0 ≤ z ∧ z ≤ 255) (hy : ∀ z ∈ ys, 0 ≤ z ∧ z ≤ 255) (hne : xs.getD k 0 ≠ ys.getD k 0) :
    decide (unbe xs < unbe ys) = decide (xs.getD k 0 < ys.getD k 0) := by
  have e1 := split_at xs k h
  have e2 := split_at ys k (by omega)
  have d : ∀ (l : List Int), (∀ z ∈ l, 0 ≤ z ∧ z ≤ 255) → ∀ z ∈ l.drop (k + 1), 0 ≤ z ∧ z ≤ 255 := fun l hz z h => hz z (List.mem_of_mem_drop h)
  have dl : (xs.drop (k + 1)).length = (ys.drop (k + 1)).length := by simp; omega
  rcases Int.lt_or_le (xs.getD k 0) (ys.getD k 0) with h1 | h1
  · have := unbe_part (p := xs.take k) dl (d xs hx) (d ys hy) h1
    rw [← e1, ht, ← e2] at this
    rw [decide_eq_true this, decide_eq_true h1]
  · have := unbe_part (p := ys.take k) dl.symm (d ys hy) (d xs hx) (show ys.getD k 0 < xs.getD k 0 by omega)
    rw [← e2, ← ht, ← e1] at this
    rw [decide_eq_false (by omega), decide_eq_false (by omega)]

/-- A place's key. -/
def keyB (p a b : Int) : List Int := beb 1 p ++ beb 5 a ++ beb 5 b
def keyOk (p a b : Int) : Prop := 0 ≤ p ∧ p ≤ 255 ∧ 0 ≤ a ∧ a ≤ 1099511627775 ∧ 0 ≤ b ∧ b ≤ 1099511627775
theorem keyB_len (p a b : Int) : (keyB p a b).length = 11 := by simp [keyB, beb_len]
theorem keyB_byte (p a b : Int) : ∀ x ∈ keyB p a b, 0 ≤ x ∧ x ≤ 255 := by
  intro x hx
  simp only [keyB, List.mem_append] at hx
  rcases hx with (hx | hx) | hx <;> exact beb_byte _ _ x hx
theorem unbe_beb1 (n : Int) (h0 : 0 ≤ n) (h1 : n ≤ 255) : unbe (beb 1 n) = n := by simp [unbe, beb]; omega
theorem unbe_beb5 (n : Int) (h0 : 0 ≤ n) (h1 : n ≤ 1099511627775) : unbe (beb 5 n) = n := by
  simp [unbe, beb]; omega
theorem unbe_key (p a b : Int) (h : keyOk p a b) : unbe (keyB p a b) = p * 1208925819614629174706176 + a * 1099511627776 + b := by
  obtain ⟨h1, h2, h3, h4, h5, h6⟩ := h
  rw [keyB, unbe_append, unbe_append, unbe_beb1 p h1 h2, unbe_beb5 a h3 h4, unbe_beb5 b h5 h6, beb_len, beb_len]
  simp only [Int.reducePow]
  omega
/-- a place ahead of another one. -/
def aheadB (p a b q c d : Int) : Bool := decide (p < q ∨ p = q ∧ (a < c ∨ a = c ∧ b < d))
theorem ahead_key (p a b q c d : Int) (h : keyOk p a b) (h' : keyOk q c d) : decide (unbe (keyB p a b) < unbe (keyB q c d)) = aheadB p a b q c d := by
  rw [unbe_key _ _ _ h, unbe_key _ _ _ h', aheadB]
  obtain ⟨h1, h2, h3, h4, h5, h6⟩ := h
  obtain ⟨g1, g2, g3, g4, g5, g6⟩ := h'
  rw [Bool.eq_iff_iff, decide_eq_true_iff, decide_eq_true_iff]
  omega
theorem key_part1 (p a b : Int) : (keyB p a b).take 1 = beb 1 p := by simp [keyB, beb]
theorem key_part2 (p a b : Int) : ((keyB p a b).drop 1).take 5 = beb 5 a := by simp [keyB, beb]
theorem key_part3 (p a b : Int) : (keyB p a b).drop 6 = beb 5 b := by simp [keyB, beb]
end Go.Proofs.YtongpgnnhpbcpaaGreatDoor
