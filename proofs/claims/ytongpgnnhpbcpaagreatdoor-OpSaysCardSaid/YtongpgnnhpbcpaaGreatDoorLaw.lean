import Derived.Test.YtongpgnnhpbcpaaGreatDoorRef
import Derived.Test.YtongpgnnhpbcpaaGreatDoorBase
namespace Go.Proofs.YtongpgnnhpbcpaaGreatDoor
open Go.RowKit

theorem dec_enc : ∀ (L u i a : Nat) (t : List Int), (enc u).length = L → a + u * 128 ^ i ≤ 18446744073709551615 → (0 < i → u ≠ 0) → i + L ≤ 10 → dec i a (enc u ++ t) = .ok (a + u * 128 ^ i) (i + (enc u).length) := by
  intro L
  induction L with
  | zero => intro u i a t hL; have := enc_pos u; omega
  | succ L ih =>
    intro u i a t hL hb h0 hi
    have h9 : i = 9 → u ≤ 1 := by
      intro h9; subst h9
      have e : (128 : Nat) ^ 9 = 9223372036854775808 := by decide
      rw [e] at hb
      omega
    by_cases hs : u < 128
    · rw [enc_small u hs] at hL ⊢
      simp only [List.cons_append, List.nil_append, List.length_cons, List.length_nil]
      rw [dec, if_neg (by omega), if_pos (by omega), Int.toNat_natCast]
    · rw [enc_big u hs] at hL ⊢
      simp only [List.length_cons, List.cons_append] at hL ⊢
      have hi9 : i ≠ 9 := fun h => by have := h9 h; omega
      rw [dec, if_neg (by omega), if_neg (by omega), Int.toNat_natCast]
      have e1 : (u % 128 + 128) % 128 = u % 128 := by omega
      have e2 : a + u % 128 * 128 ^ i + u / 128 * 128 ^ (i + 1) = a + u * 128 ^ i := by
        have : u * 128 ^ i = (128 * (u / 128) + u % 128) * 128 ^ i := by rw [Nat.div_add_mod]
        rw [this, Nat.pow_succ, Nat.add_mul, Nat.mul_comm 128 (u / 128), Nat.mul_assoc, Nat.mul_comm 128 (128 ^ i)]
        omega
      rw [e1, ih (u / 128) (i + 1) _ t (by omega) (by rw [e2]; exact hb) (by intro _; omega) (by omega), e2]
      congr 1
      omega

theorem dec_enc0 (u : Nat) (t : List Int) (h : u ≤ 18446744073709551615) : dec 0 0 (enc u ++ t) = .ok u (enc u).length := by
  have := dec_enc _ u 0 0 t rfl (by simpa using h) (by omega) (by have := enc_ten u h; omega)
  simpa using this

theorem numOf_enc (aE aS aR : Addr) (n low high : Int) (t : List Int) (h0 : -9223372036854775808 ≤ n) (h1 : n ≤ 9223372036854775807) :
    numOf aE aS aR (enc (zz n).toNat ++ t) low high = if low ≤ n ∧ n ≤ high then .inl (n, (enc (zz n).toNat).length) else .inr aR := by
  have hz := zz_lo n
  have hz2 := zz_hi n h0 h1
  unfold numOf
  rw [dec_enc0 _ _ (by omega)]
  simp only
  rw [Int.toNat_of_nonneg hz, uz_zz]

theorem enc1 : encs [-1, 64] = [1, 128, 1] := by
  have e1 : zz (-1) = 1 := by decide
  have e2 : zz 64 = 128 := by decide
  simp only [encs, List.flatMap_cons, List.flatMap_nil, e1, e2]
  have h1 : enc (1 : Int).toNat = [1] := enc_small 1 (by decide)
  have h2 : enc (128 : Int).toNat = [128, 1] := by
    show enc 128 = _
    rw [enc_big 128 (by decide), enc_small _ (by decide)]; rfl
  rw [h1, h2]; rfl

theorem Rdr.same {w w' : World} {B g p : Nat} {xs : List Int} {bad : Option Addr} (h : Rdr w B g xs p bad) (hb : ∀ i, i < w.heap.size → w'.heap[i]? = w.heap[i]?) : Rdr w' B g xs p bad := by
  obtain ⟨hB, hp, bv, errv, hg, hown, he⟩ := h
  refine ⟨hB, hp, bv, errv, by rw [hb g (Array.getElem?_eq_some_iff.1 hg).1]; exact hg, ⟨hown.1, ?_⟩, ?_⟩
  · rcases hown.2 with h2 | ⟨gb, cap, cur, hv, hgb, hh, r⟩
    · exact .inl h2
    · exact .inr ⟨gb, cap, cur, hv, hgb, by rw [hb gb (Array.getElem?_eq_some_iff.1 hh).1]; exact hh, r⟩
  · cases bad with
    | none => exact he
    | some a =>
      obtain ⟨ga, e1, e2, e3, e4⟩ := he
      exact ⟨ga, e1, e2, e3, by rw [hb ga (Array.getElem?_eq_some_iff.1 e4).1]; exact e4⟩
theorem errs_of {w : World} {A : Nat → Addr} (h : Sents w A) : Errs3 w (A 0) (A 1) (A 2) := ⟨h.cell 0 (by decide), h.cell 1 (by decide), h.cell 2 (by decide)⟩
end Go.Proofs.YtongpgnnhpbcpaaGreatDoor
