/-
  rec.upTo, rec.lay, rec.number: a number's bytes, the highest first.
-/
import Derived.Test.YtjmpmlacaoelgaaDoorRecMath
import Derived.Test.YtjmpmlacaoelgaaDoorMem
import Derived.Test.YtjmpmlacaoelgaaDoorErr
import Derived.Deep.RegionHeld3
import Derived.Deep.QuietTactic
import Derived.BigQuiet
namespace Go.Proofs.YtjmpmlacaoelgaaDoor
open Go.RowKit
set_option linter.unusedVariables false

theorem upTo_yes (n m : Int) (w : World) (h0 : 0 ≤ n) (h1 : n ≤ m) : Calls Tryd.prog 27 #[.int .i64 n, .int .i64 m] w fun e w' => e = .returned (.bool true) ∧ w = w' := by
  go_enter Tryd.func27, Tryd.ntmps27
  go_wp2
  go_ret
  exact ⟨rfl, rfl⟩
theorem upTo_no (n m : Int) (w : World) (h : n < 0 ∨ m < n) : Calls Tryd.prog 27 #[.int .i64 n, .int .i64 m] w fun e w' => e = .returned (.bool false) ∧ w = w' := by
  by_cases h0 : n < 0
  · clear h
    go_enter Tryd.func27, Tryd.ntmps27
    go_wp2
    go_ret
    exact ⟨rfl, rfl⟩
  · have h0' : 0 ≤ n := by omega
    have h1 : m < n := by omega
    have hd : decide (n ≤ m) = false := decide_eq_false (by omega)
    clear h h0
    go_enter Tryd.func27, Tryd.ntmps27
    go_wp2
    go_ret
    exact ⟨rfl, rfl⟩

/-- lay's rounds. -/
def LaysAt (A B C : List Int) (n : Int) (g : Nat) (w0 : World) (i : Value) (w : World) : Prop := ∃ k : Nat, k ≤ B.length ∧ i = .int .i64 (k : Int) ∧ ByteAt w g (A ++ (beb B.length n).take k ++ B.drop k ++ C) ∧ Trd (· = g) w0 w
def LayEnd (A B C : List Int) (n : Int) (g : Nat) (w : World) (e : Ending) (w' : World) : Prop := e = .returned (.tuple #[]) ∧ ByteAt w' g (A ++ beb B.length n ++ C) ∧ Trd (· = g) w w'
theorem lay_any (A B C : List Int) (n : Int) (g c : Nat) (w : World) (hg : ByteAt w g (A ++ B ++ C)) (hB : B.length ≤ 6) (h0 : 0 ≤ n) (h1 : n ≤ 1099511627776) (hA : A.length ≤ 1000) :
    Calls Tryd.prog 28 #[.slice (some ⟨g, A.length, none⟩) B.length c, .int .i64 n] w (LayEnd A B C n g w) := by
  have hs := hidden (show LaysAt A B C n g w (.int .i64 0) w from ⟨0, Nat.zero_le _, rfl, by simpa using hg, Trd.refl _ _⟩)
  clear hg
  have hset := hidden (fun k => @beb_set A B C n k)
  have hend := hidden (show A ++ (beb B.length n).take B.length ++ B.drop B.length ++ C = A ++ beb B.length n ++ C by simp [List.take_of_length_le, beb_len])
  have hAL := hidden (fun k (hk : k < B.length) => show A.length + k < (A ++ (beb B.length n).take k ++ B.drop k ++ C).length by simp [beb_len]; omega)
  go_enter Tryd.func28, Tryd.ntmps28
  go_wp2_with fail
  go_loopw [7] (fun i wr => LaysAt A B C n g w i wr) (fun i _ => B.length - (RowKit.intOf i).toNat)
  case atStart => exact hs.out
  case round =>
    clear hs
    obtain ⟨k, hk, rfl, hb, ht⟩ := hrel
    replace ht := hidden ht
    by_cases hlt : k < B.length
    · have c0 := hb.cell (hAL.out k hlt)
      have f0 := hb.frozen (A.length + k)
      have hb2 := hidden (hb.set (A.length + k) (n / 256 ^ (B.length - 1 - k) % 256))
      rw [hset.out k hlt] at hb2
      have hp : (n / 2 ^ (8 * ((B.length : Int) - 1 - (k : Int))).toNat) = n / 256 ^ (B.length - 1 - k) := by
        rw [show (8 * ((B.length : Int) - 1 - (k : Int))).toNat = 8 * (B.length - 1 - k) by omega, show (2 : Int) ^ (8 * (B.length - 1 - k)) = 256 ^ (B.length - 1 - k) by rw [Int.pow_mul]; rfl]
      have hki : (k : Int) < (B.length : Int) := by omega
      have h8 : (B.length : Int) ≤ 6 := by omega
      clear hb
      generalize hv : (A ++ (beb B.length n).take k ++ B.drop k ++ C).getD (A.length + k) 0 = v at c0
      clear hv
      go_wp2
      go_roundw
      case rel => exact ⟨k + 1, by omega, by go_num, hb2.out, ht.out.trans (Trd.setCell _ _ _ rfl)⟩
      case measure => simp [RowKit.intOf]; omega
    · obtain rfl : k = B.length := by omega
      rw [hend.out] at hb
      replace hb := hidden hb
      go_wp2
      go_end0
      exact ⟨rfl, hb.out, ht.out⟩

/-- one byte more behind. -/
theorem or_low8 (a x : Int) (ha : 0 ≤ a) (ha2 : a < 1099511627776) (hx : 0 ≤ x) (hx2 : x ≤ 255) : bits .or .i64 (a * 256) x = a * 256 + x := by
  obtain ⟨A, rfl⟩ := Int.eq_ofNat_of_zero_le ha
  obtain ⟨X, rfl⟩ := Int.eq_ofNat_of_zero_le hx
  have hor : (A * 256 ||| X) = A * 256 + X := by
    have := Nat.shiftLeft_add_eq_or_of_lt (b := X) (i := 8) (by omega) A
    rw [Nat.shiftLeft_eq, show 2 ^ 8 = 256 by decide] at this
    omega
  have e : ((A : Int) * 256) = ((A * 256 : Nat) : Int) := by omega
  rw [e, bits_or64 (A * 256) X (by omega) (by omega) (by rw [hor]; omega), hor]
  omega
theorem unbe_small {l : List Int} (h : ∀ x ∈ l, 0 ≤ x ∧ x ≤ 255) {m : Nat} (hl : l.length ≤ m) : 0 ≤ unbe l ∧ unbe l < 256 ^ m := by
  refine ⟨unbe_lo l h, Int.lt_of_lt_of_le (unbe_hi l h) ?_⟩
  have q := Nat.pow_le_pow_right (show 0 < 256 by decide) hl
  have e : ∀ k : Nat, (256 : Int) ^ k = ((256 ^ k : Nat) : Int) := fun k => by rw [Int.natCast_pow]; rfl
  rw [e, e]
  exact Int.ofNat_le.2 q
def NumbersAt (bs : List Int) (w0 : World) (n i : Value) (w : World) : Prop := ∃ k : Nat, k ≤ bs.length ∧ n = .int .i64 (unbe (bs.take k)) ∧ i = .int .i64 (k : Int) ∧ w0 = w
theorem number_any9 (v : Value) (bs : List Int) (w : World) (hr : Reads .u8 w v bs) (hl : bs.length ≤ 5) (hb : ∀ x ∈ bs, 0 ≤ x ∧ x ≤ 255) :
    Calls Tryd.prog 30 #[v] w fun e w' => e = .returned (.int .i64 (unbe bs)) ∧ w = w' := by
  obtain ⟨a, c, rfl⟩ := reads_slice hr
  replace hr := hidden hr
  have ht := hidden (fun k => @unbe_take bs k)
  have hb' := hidden hb
  clear hb
  go_enter Tryd.func30, Tryd.ntmps30
  go_wp2_with fail
  go_loopw [3, 8] (fun n i wr => NumbersAt bs w n i wr) (fun _ i _ => bs.length - (RowKit.intOf i).toNat)
  case atStart => exact ⟨0, Nat.zero_le _, rfl, rfl, rfl⟩
  case round =>
    obtain ⟨k, hk, rfl, rfl, rfl⟩ := hrel
    by_cases hlt : k < bs.length
    · obtain ⟨bl, o, rfl, c0⟩ := hr.out.cell k hlt
      have hx := hb'.out (bs.getD k 0) (by rw [List.getD_eq_getElem?_getD, List.getElem?_eq_getElem hlt]; exact List.getElem_mem hlt)
      have hn := ht.out k hlt
      have n1 := unbe_small (m := 4) (fun x hx => hb'.out x (List.mem_of_mem_take hx)) (show (bs.take k).length ≤ 4 by rw [List.length_take]; omega)
      rw [show (256 : Int) ^ 4 = 4294967296 by decide] at n1
      generalize bs.getD k 0 = x at *
      generalize unbe (bs.take k) = n at *
      have hor := hidden (or_low8 n x n1.1 (by omega) hx.1 hx.2)
      have hki : (k : Int) < (bs.length : Int) := by omega
      have h8 : (k : Int) ≤ 6 := by omega
      replace hn := hidden hn
      go_wp2
      go_roundw
      case rel => exact ⟨k + 1, hlt, by rw [hn.out, ← hor.out], by go_num, rfl⟩
      case measure => simp [RowKit.intOf]; omega
    · obtain rfl : k = bs.length := by omega
      have e := hidden (show unbe (bs.take bs.length) = unbe bs by rw [List.take_length])
      go_wp2
      go_ret
      exact ⟨ret_int e.out, rfl⟩
end Go.Proofs.YtjmpmlacaoelgaaDoor
