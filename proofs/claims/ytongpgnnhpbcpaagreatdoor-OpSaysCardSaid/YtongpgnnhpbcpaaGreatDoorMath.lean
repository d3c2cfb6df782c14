/-
  Plain numbers and lists: the zig-zag number, the form of a number as bytes, and what reads it. Nothing of a program stands here.
-/
import Derived.WalkKit
import Derived.Laws.Bits64
import Derived.Laws.BitsAllLaws
namespace Go.Proofs.YtongpgnnhpbcpaaGreatDoor
open Go Go.RowKit

theorem xor_ones_u64 (x : Int) (h0 : 0 ≤ x) (h1 : x ≤ 18446744073709551615) : bits .xor .u64 x 18446744073709551615 = 18446744073709551615 - x := by
  obtain ⟨X, rfl⟩ := Int.eq_ofNat_of_zero_le h0
  rw [u64_xor _ _ (by omega) (by omega) (by omega) (by omega)]
  have e : X ^^^ 18446744073709551615 = 18446744073709551615 - X := by
    have h : (BitVec.ofNat 64 X ^^^ BitVec.ofNat 64 18446744073709551615).toNat = (~~~ (BitVec.ofNat 64 X)).toNat := by
      congr 1
      have : (BitVec.ofNat 64 18446744073709551615) = BitVec.allOnes 64 := by decide
      rw [this, BitVec.xor_allOnes]
    rw [BitVec.toNat_xor, BitVec.toNat_not, BitVec.toNat_ofNat, BitVec.toNat_ofNat, Nat.mod_eq_of_lt (by omega), Nat.mod_eq_of_lt (by omega)] at h
    omega
  simp only [Int.toNat_natCast, Int.reduceToNat]
  rw [e]
  omega
theorem xor_zero_u64 (x : Int) (h0 : 0 ≤ x) (h1 : x ≤ 18446744073709551615) : bits .xor .u64 x 0 = x := by
  rw [u64_xor _ _ (by omega) (by omega) (by omega) (by omega)]
  simp
  omega
theorem xor_zero_i64 (x : Int) (h0 : -9223372036854775808 ≤ x) (h1 : x ≤ 9223372036854775807) : bits .xor .i64 x 0 = x := by
  show IntKind.i64.wrap ((BitVec.ofInt 64 x ^^^ BitVec.ofInt 64 0).toNat : Int) = x
  have : BitVec.ofInt 64 0 = 0#64 := by decide
  rw [this, BitVec.xor_zero, BitVec.toNat_ofInt, IntKind.wrap_i64]
  omega
theorem xor_ones_i64 (x : Int) (h0 : -9223372036854775808 ≤ x) (h1 : x ≤ 9223372036854775807) : bits .xor .i64 x (-1) = -x - 1 := by
  show IntKind.i64.wrap ((BitVec.ofInt 64 x ^^^ BitVec.ofInt 64 (-1)).toNat : Int) = _
  have : BitVec.ofInt 64 (-1) = BitVec.allOnes 64 := by decide
  rw [this, BitVec.xor_allOnes, BitVec.toNat_not, BitVec.toNat_ofInt, IntKind.wrap_i64]
  omega

/-- The zig-zag number of n, and back. -/
def zz (n : Int) : Int := if 0 ≤ n then 2 * n else -2 * n - 1
def uz (u : Int) : Int := if u % 2 = 0 then u / 2 else -(u / 2) - 1
theorem uz_zz (n : Int) : uz (zz n) = n := by unfold uz zz; split <;> (rename_i h; split <;> omega)
theorem zz_lo (n : Int) : 0 ≤ zz n := by unfold zz; split <;> omega
theorem zz_hi (n : Int) (h0 : -9223372036854775808 ≤ n) (h1 : n ≤ 9223372036854775807) : zz n ≤ 18446744073709551615 := by unfold zz; split <;> omega
theorem uz_lo (u : Int) (h0 : 0 ≤ u) (h1 : u ≤ 18446744073709551615) : -9223372036854775808 ≤ uz u := by unfold uz; split <;> omega
theorem uz_hi (u : Int) (h0 : 0 ≤ u) (h1 : u ≤ 18446744073709551615) : uz u ≤ 9223372036854775807 := by unfold uz; split <;> omega

theorem zz_eq (n : Int) (h0 : -9223372036854775808 ≤ n) (h1 : n ≤ 9223372036854775807) :
    bits .xor .u64 (IntKind.u64.wrap (IntKind.u64.wrap n * 2)) (IntKind.u64.wrap (n / 9223372036854775808)) = zz n := by
  by_cases h : 0 ≤ n
  · have e : n / 9223372036854775808 = 0 := by omega
    rw [e, IntKind.wrap_u64, IntKind.wrap_u64, IntKind.wrap_u64, zz, if_pos h]
    show bits .xor .u64 _ 0 = _
    rw [xor_zero_u64 _ (by omega) (by omega)]
    omega
  · have e : n / 9223372036854775808 = -1 := by omega
    rw [e, IntKind.wrap_u64, IntKind.wrap_u64, IntKind.wrap_u64, zz, if_neg h]
    show bits .xor .u64 _ 18446744073709551615 = _
    rw [xor_ones_u64 _ (by omega) (by omega)]
    omega
theorem uz_eq (u : Int) (h0 : 0 ≤ u) (h1 : u ≤ 18446744073709551615) :
    bits .xor .i64 (u / 2) (wrap64 (-wrap64 (bits .and .u64 u 1))) = uz u := by
  rw [u64_and _ _ (by omega) (by omega) (by omega) (by omega)]
  have e : ((u.toNat &&& (1 : Int).toNat : Nat) : Int) = u % 2 := by
    show ((u.toNat &&& 1 : Nat) : Int) = _
    rw [nat_mask1]; omega
  rw [e]
  unfold uz
  by_cases h : u % 2 = 0
  · rw [if_pos h, h, show wrap64 (-wrap64 0) = 0 by unfold wrap64; decide]
    rw [xor_zero_i64 _ (by omega) (by omega)]
  · have h' : u % 2 = 1 := by omega
    rw [if_neg h, h', show wrap64 (-wrap64 1) = -1 by unfold wrap64; decide]
    rw [xor_ones_i64 _ (by omega) (by omega)]

/-- The form of a number of 64 bits. -/
def enc (u : Nat) : List Int := if u < 128 then [(u : Int)] else ((u % 128 + 128 : Nat) : Int) :: enc (u / 128)
  termination_by u
  decreasing_by omega
theorem enc_small (u : Nat) (h : u < 128) : enc u = [(u : Int)] := by rw [enc, if_pos h]
theorem enc_big (u : Nat) (h : ¬ u < 128) : enc u = ((u % 128 + 128 : Nat) : Int) :: enc (u / 128) := by rw [enc, if_neg h]
theorem enc_pos (u : Nat) : 0 < (enc u).length := by
  by_cases h : u < 128
  · rw [enc_small u h]; simp
  · rw [enc_big u h]; simp
/-- fewer than 128 ^ k: at most k bytes. -/
theorem enc_len (k : Nat) : ∀ u, u < 128 ^ (k + 1) → (enc u).length ≤ k + 1 := by
  induction k with
  | zero => intro u h; rw [enc_small u (by simpa using h)]; simp
  | succ k ih =>
    intro u h
    by_cases hs : u < 128
    · rw [enc_small u hs]; simp
    · rw [enc_big u hs]
      have := ih (u / 128) (by rw [Nat.pow_succ] at h; exact Nat.div_lt_of_lt_mul (by omega))
      simp; omega
theorem enc_ten (u : Nat) (h : u ≤ 18446744073709551615) : (enc u).length ≤ 10 := enc_len 9 u (by have : (128 : Nat) ^ 10 = 1180591620717411303424 := by decide
                                                                                                  omega)
theorem enc_byte (u : Nat) : ∀ x ∈ enc u, 0 ≤ x ∧ x ≤ 255 := by
  induction u using Nat.strongRecOn with
  | ind u ih =>
    by_cases h : u < 128
    · rw [enc_small u h]; intro x hx; simp at hx; omega
    · rw [enc_big u h]; intro x hx
      rcases List.mem_cons.1 hx with rfl | hx
      · omega
      · exact ih (u / 128) (by omega) x hx

/-- The forms of some numbers, one behind the other. -/
def encs (l : List Int) : List Int := l.flatMap fun n => enc (zz n).toNat
theorem encs_nil : encs [] = [] := rfl
theorem encs_snoc (l : List Int) (n : Int) : encs (l ++ [n]) = encs l ++ enc (zz n).toNat := by simp [encs]
theorem encs_cons (l : List Int) (n : Int) : encs (n :: l) = enc (zz n).toNat ++ encs l := by simp [encs]
theorem encs_append (l m : List Int) : encs (l ++ m) = encs l ++ encs m := by simp [encs]
theorem encs_byte (l : List Int) : ∀ x ∈ encs l, 0 ≤ x ∧ x ≤ 255 := by
  intro x hx
  simp only [encs, List.mem_flatMap] at hx
  obtain ⟨n, _, h⟩ := hx
  exact enc_byte _ x h
theorem encs_len (l : List Int) (h : ∀ n ∈ l, -9223372036854775808 ≤ n ∧ n ≤ 9223372036854775807) : (encs l).length ≤ 10 * l.length := by
  induction l with
  | nil => simp [encs]
  | cons n l ih =>
    rw [encs_cons, List.length_append, List.length_cons]
    have := ih fun m hm => h m (List.mem_cons_of_mem _ hm)
    have := enc_ten (zz n).toNat (by have := zz_hi n (h n (by simp)).1 (h n (by simp)).2; omega)
    omega

theorem or128 (u : Nat) : bits .or .u8 (IntKind.u8.wrap (u : Int)) 128 = ((u % 128 + 128 : Nat) : Int) := by
  rw [IntKind.wrap_u8', u8_or _ _ (by omega) (by omega) (by omega) (by omega)]
  have e : (u : Int) % 256 = ((u % 256 : Nat) : Int) := by omega
  rw [e]
  show (((u % 256 : Nat) ||| 128 : Nat) : Int) = _
  have h : ∀ b : Fin 256, (b.val ||| 128) = b.val % 128 + 128 := by decide +kernel
  have := h ⟨u % 256, by omega⟩
  simp only at this
  rw [this]
  omega
end Go.Proofs.YtongpgnnhpbcpaaGreatDoor
