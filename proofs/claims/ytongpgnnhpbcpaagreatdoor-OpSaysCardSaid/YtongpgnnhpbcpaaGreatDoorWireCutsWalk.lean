import Derived.Test.YtongpgnnhpbcpaaGreatDoorLaw
namespace Go.Proofs.YtongpgnnhpbcpaaGreatDoor
open Go.RowKit

theorem dec_prefix : ∀ (L u i a j : Nat), (enc u).length = L → a + u * 128 ^ i ≤ 18446744073709551615 → i + L ≤ 10 → j < L → dec i a ((enc u).take j) = .fin := by
  intro L
  induction L with
  | zero => intro u i a j hL; have := enc_pos u; omega
  | succ L ih =>
    intro u i a j hL hb hi hj
    match j with
    | 0 => simp [dec]
    | j + 1 =>
      by_cases hs : u < 128
      · rw [enc_small u hs] at hL
        simp at hL
        omega
      · rw [enc_big u hs] at hL ⊢
        simp only [List.length_cons, List.take_succ_cons] at hL ⊢
        have h9 : i ≠ 9 := by
          intro h9; subst h9
          have e : (128 : Nat) ^ 9 = 9223372036854775808 := by decide
          rw [e] at hb
          omega
        rw [dec, if_neg (by omega), if_neg (by omega), Int.toNat_natCast]
        have e1 : (u % 128 + 128) % 128 = u % 128 := by omega
        have e2 : a + u % 128 * 128 ^ i + u / 128 * 128 ^ (i + 1) = a + u * 128 ^ i := by
          have : u * 128 ^ i = (128 * (u / 128) + u % 128) * 128 ^ i := by rw [Nat.div_add_mod]
          rw [this, Nat.pow_succ, Nat.add_mul, Nat.mul_comm 128 (u / 128), Nat.mul_assoc, Nat.mul_comm 128 (128 ^ i)]
          omega
        rw [e1]
        exact ih (u / 128) (i + 1) _ j (by omega) (by rw [e2]; exact hb) (by omega) (by omega)

theorem getD_mem (l : List Int) (i : Nat) (h : i < l.length) : l.getD i 0 ∈ l := by
  rw [List.getD_eq_getElem?_getD, List.getElem?_eq_getElem h]; exact List.getElem_mem h
theorem encs_split (l : List Int) (i : Nat) (h : i < l.length) : (encs l).drop (encs (l.take i)).length = enc (zz (l.getD i 0)).toNat ++ encs (l.drop (i + 1)) := by
  have e : l = l.take i ++ (l.getD i 0 :: l.drop (i + 1)) := by
    rw [List.getD_eq_getElem?_getD, List.getElem?_eq_getElem h]
    simp [← List.drop_eq_getElem_cons h]
  rw [show encs l = encs (l.take i) ++ encs (l.getD i 0 :: l.drop (i + 1)) by rw [← encs_append, ← e], List.drop_left, encs_cons]
theorem encs_take_succ (l : List Int) (i : Nat) (h : i < l.length) : (encs (l.take (i + 1))).length = (encs (l.take i)).length + (enc (zz (l.getD i 0)).toNat).length := by
  rw [take_snoc_getD l i h, encs_snoc, List.length_append]

/-- the i-th number of those that were cut off at k: whole, or ended too early. -/
theorem cut_num (aE aS aR : Addr) (l : List Int) (i k : Nat) (h : i < l.length) (hr : ∀ n ∈ l, -9223372036854775808 ≤ n ∧ n ≤ 9223372036854775807) :
    numOf aE aS aR (((encs l).take k).drop (encs (l.take i)).length) (-9223372036854775808) 9223372036854775807 =
      if (encs (l.take (i + 1))).length ≤ k then .inl (l.getD i 0, (enc (zz (l.getD i 0)).toNat).length) else .inr aE := by
  have hx := hr _ (getD_mem l i h)
  have hz := zz_hi _ hx.1 hx.2
  have hz0 := zz_lo (l.getD i 0)
  rw [List.drop_take, encs_split l i h, encs_take_succ l i h]
  generalize l.getD i 0 = x at *
  split
  · rename_i hk
    rw [List.take_append, List.take_of_length_le (by omega), numOf_enc _ _ _ _ _ _ _ hx.1 hx.2, if_pos hx]
  · rename_i hk
    rw [List.take_append_of_le_length (by omega)]
    unfold numOf
    rw [dec_prefix _ (zz x).toNat 0 0 _ rfl (by simp; omega) (by have := enc_ten (zz x).toNat (by omega); omega) (by have := enc_pos (zz x).toNat; omega)]

def CutsRel (w : World) (B g : Nat) (l : List Int) (k : Nat) (p i : Value) (wr : World) : Prop :=
  ∃ j : Nat, i = .int .i64 (j : Int) ∧ j ≤ l.length ∧ p = .int .i64 ((encs (l.take j)).length : Int) ∧ (encs (l.take j)).length ≤ k ∧ Rdr wr B g ((encs l).take k) (encs (l.take j)).length none ∧ Below w.heap.size w wr

end Go.Proofs.YtongpgnnhpbcpaaGreatDoor
