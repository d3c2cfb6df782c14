/-
  rec.upTo, rec.lay, rec.number: a number's bytes, the highest first.
-/
import Derived.Test.YtongpgnnhpbcpaaGreatDoorRecMath
import Derived.Test.YtongpgnnhpbcpaaGreatDoorBase
import Derived.Test.YtongpgnnhpbcpaaGreatDoorSee
import Derived.Deep.RegionHeld3
import Derived.Deep.QuietTactic
import Derived.BigQuiet
namespace Go.Proofs.YtongpgnnhpbcpaaGreatDoor
open Go.RowKit
set_option linter.unusedVariables false

/-- lay's rounds. -/
def LaysAt (A B C : List Int) (n : Int) (g : Nat) (w0 : World) (i : Value) (w : World) : Prop := ∃ k : Nat, k ≤ B.length ∧ i = .int .i64 (k : Int) ∧ ByteAt w g (A ++ (beb B.length n).take k ++ B.drop k ++ C) ∧ Trd (· = g) w0 w
def LayEnd (A B C : List Int) (n : Int) (g : Nat) (w : World) (e : Ending) (w' : World) : Prop := e = .returned (.tuple #[]) ∧ ByteAt w' g (A ++ beb B.length n ++ C) ∧ Trd (· = g) w w'
/-- one byte more behind. -/
theorem or_low8 (a x : Int) (ha : 0 ≤ a) (ha2 : a < 1099511627776) (hx : 0 ≤ x) (hx2 : x ≤ 255) : bits .or .i64 (a * 256) x = a * 256 + x := by
  obtain ⟨A, rfl⟩ := Int.eq_ofNat_of_zero_le ha
  obtain ⟨X, rfl⟩ := Int.eq_ofNat_of_zero_le hx
  have hor : (A * 256 ||| X) = A * 256 + X := by
    have := Nat.shiftLeft_add_eq_or_of_lt (b := X) (i := 8) (by omega) A
    rw [Nat.shiftLeft_eq, show 2 ^ 8 = 256 by decide] at this
    omega
  have e : ((A : Int) * 256) = ((A * 256 : Nat) : Int) := by omega
  rw [e, bits_or64 (A * 256) X (by omega) (by omega) (by rw [hor]; omega), hor]
  omega
theorem unbe_small {l : List Int} (h : ∀ x ∈ l, 0 ≤ x ∧ x ≤ 255) {m : Nat} (hl : l.length ≤ m) : 0 ≤ unbe l ∧ unbe l < 256 ^ m := by
  refine ⟨unbe_lo l h, Int.lt_of_lt_of_le (unbe_hi l h) ?_⟩
  have q := Nat.pow_le_pow_right (show 0 < 256 by decide) hl
  have e : ∀ k : Nat, (256 : Int) ^ k = ((256 ^ k : Nat) : Int) := fun k => by rw [Int.natCast_pow]; rfl
  rw [e, e]
  exact Int.ofNat_le.2 q
def NumbersAt (bs : List Int) (w0 : World) (n i : Value) (w : World) : Prop := ∃ k : Nat, k ≤ bs.length ∧ n = .int .i64 (unbe (bs.take k)) ∧ i = .int .i64 (k : Int) ∧ w0 = w
end Go.Proofs.YtongpgnnhpbcpaaGreatDoor
