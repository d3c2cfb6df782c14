/-
  What Sum answers, and how two products stand.
-/
import Derived.Test.YtefjemkpbkikbaaDoorFix
import Derived.Test.YtefjemkpbkikbaaDoorShare
import Derived.LoopTactic
namespace Go.Proofs.YtefjemkpbkikbaaDoor
open Go.RowKit

def total (l : List Int) : Int := l.foldl (· + ·) 0
theorem total_snoc (l : List Int) (x : Int) : total (l ++ [x]) = total l + x := by simp [total]
theorem take_snoc0 (xs : List Int) (k : Nat) (h : k < xs.length) : xs.take (k + 1) = xs.take k ++ [xs.getD k 0] := by
  rw [List.take_succ_eq_append_getElem h, List.getD_eq_getElem?_getD, List.getElem?_eq_getElem h]; rfl

def SumRel (xs : List Int) (s r i : Value) : Prop :=
  ∃ (k : Nat) (S R : Int), i = .int .i64 (k : Int) ∧ k ≤ xs.length ∧ s = .int .i64 S ∧ r = .int .i64 R ∧ -9223372036854775808 ≤ S ∧ S ≤ 9223372036854775807 ∧ -(k : Int) ≤ R ∧ R ≤ k ∧ total (xs.take k) = S + R * 18446744073709551616

theorem sum_step {T S R n : Int} (h : T = S + R * 18446744073709551616) (S0 : -9223372036854775808 ≤ S) (S1 : S ≤ 9223372036854775807) (n0 : -9223372036854775808 ≤ n) (n1 : n ≤ 9223372036854775807) :
    (in64 (S + n) = true → wrap64 (S + n) = S + n ∧ T + n = (S + n) + R * 18446744073709551616) ∧
    (in64 (S + n) = false → 0 < n → T + n = wrap64 (S + n) + (R + 1) * 18446744073709551616) ∧
    (in64 (S + n) = false → ¬ 0 < n → T + n = wrap64 (S + n) + (R - 1) * 18446744073709551616) := by
  rw [in64_iff, in64_no]; unfold wrap64; omega

theorem wrap64_bd (x : Int) : -9223372036854775808 ≤ wrap64 x ∧ wrap64 x ≤ 9223372036854775807 := by unfold wrap64; omega

set_option maxHeartbeats 1000000 in
theorem sum_any (v : Value) (xs : List Int) (w : World) (h : Reads .i64 w v xs) (hx : xs.length ≤ 1000000000) (hb : ∀ x ∈ xs, -9223372036854775808 ≤ x ∧ x ≤ 9223372036854775807) :
    Calls Tryd.prog 20 #[v] w fun e w' => e = .returned (.tuple #[.int .i64 (cap64 (total xs)), .bool (in64 (total xs))]) ∧ w = w' := by
  have hr := hidden h
  obtain ⟨a, n, c, rfl, en, hnc, hcm, hn, _⟩ := h
  subst en
  have hbb := hidden hb
  clear hn hb
  go_enter Tryd.func20, Tryd.ntmps20
  go_wp2_with fail
  go_loop [4, 5, 12] (fun s r i => SumRel xs s r i) (fun _ _ i => xs.length - (intOf i).toNat)
  case atStart => exact ⟨0, 0, 0, rfl, Nat.zero_le _, rfl, rfl, by omega, by omega, by omega, by omega, rfl⟩
  case round =>
    obtain ⟨k, S, R, rfl, hk, rfl, rfl, S0, S1, R0, R1, hT⟩ := hrel
    replace hT := hidden hT
    by_cases hlt : k < xs.length
    · obtain ⟨bl, ol, rfl, hc⟩ := hr.out.cell k hlt
      have hx' : xs.getD k 0 ∈ xs := by rw [List.getD_eq_getElem?_getD, List.getElem?_eq_getElem hlt]; exact List.getElem_mem hlt
      obtain ⟨n0, n1⟩ := hbb.out _ hx'
      have htk := hidden (show total (xs.take (k + 1)) = total (xs.take k) + xs.getD k 0 by rw [take_snoc0 xs k hlt, total_snoc])
      clear hx'
      generalize xs.getD k 0 = x at hc htk n0 n1
      obtain ⟨st1, st2, st3⟩ := sum_step hT.out S0 S1 n0 n1
      obtain ⟨wb1, wb2⟩ := wrap64_bd (S + x)
      by_cases hi : in64 (S + x) = true
      · have hw := (st1 hi).1
        have ht := hidden (st1 hi).2
        obtain ⟨S2, S3⟩ := (in64_iff _).1 hi
        clear st1 st2 st3 wb1 wb2
        go_wp2_with (go_at_call 23; refine (add_any _ _ _ S0 S1 n0 n1).mono ?_; rintro e w' ⟨rfl, rfl⟩)
        go_round
        case rel => exact ⟨k + 1, S + x, R, by go_num, hlt, rfl, rfl, S2, S3, by omega, by omega, by rw [htk.out, ht.out]⟩
        case measure => simp [intOf]; omega
      · replace hi : in64 (S + x) = false := by simpa using hi
        by_cases hx0 : 0 < x
        · have ht := hidden (st2 hi hx0)
          clear st1 st2 st3
          go_wp2_with (go_at_call 23; refine (add_any _ _ _ S0 S1 n0 n1).mono ?_; rintro e w' ⟨rfl, rfl⟩)
          go_round
          case rel => exact ⟨k + 1, _, _, by go_num, hlt, rfl, rfl, wb1, wb2, by omega, by omega, by rw [htk.out, ht.out]⟩
          case measure => simp [intOf]; omega
        · have ht := hidden (st3 hi hx0)
          clear st1 st2 st3
          go_wp2_with (go_at_call 23; refine (add_any _ _ _ S0 S1 n0 n1).mono ?_; rintro e w' ⟨rfl, rfl⟩)
          go_round
          case rel => exact ⟨k + 1, _, _, by go_num, hlt, rfl, rfl, wb1, wb2, by omega, by omega, by rw [htk.out, ht.out]⟩
          case measure => simp [intOf]; omega
    · have e : xs.take k = xs := List.take_of_length_le (by omega)
      rw [e] at hT
      by_cases hR : R = 0
      · subst hR
        have hin := in64_mk (x := total xs) (by have := hT.out; omega)
        have hS := hidden (show total xs = S by have := hT.out; omega)
        have hin' := hidden hin
        clear hin
        go_wp2
        go_ret2
        exact ⟨ret_ib (by rw [cap64_yes hin'.out]; exact hS.out.symm) hin'.out.symm, rfl⟩
      · have hin := hidden ((in64_no (total xs)).2 (by have := hT.out; omega))
        have hne : (R != 0) = true := by simpa using hR
        clear hR
        go_wp2
        go_ret2
        exact ⟨ret_ib (cap64_no hin.out).symm hin.out.symm, rfl⟩

/-- what Compare of two numbers answers. -/
def cmpv (x y : Int) : Int := if x < y then -1 else if y < x then 1 else 0
theorem cmpv_lt {x y : Int} (h : x < y) : cmpv x y = -1 := if_pos h
theorem cmpv_gt {x y : Int} (h : y < x) : cmpv x y = 1 := by unfold cmpv; rw [if_neg (by omega), if_pos h]
theorem cmpv_eq {x y : Int} (h : x = y) : cmpv x y = 0 := by unfold cmpv; rw [if_neg (by omega), if_neg (by omega)]

def orv (x y : Int) : Int := if x = 0 then y else x
theorem orv_no {x y : Int} (h : x ≠ 0) : orv x y = x := if_neg h
theorem orv_yes (y : Int) : orv 0 y = y := if_pos rfl
def OrRel (x y : Int) (i : Value) : Prop := i = .int .i64 0 ∨ (i = .int .i64 1 ∧ x = 0) ∨ (i = .int .i64 2 ∧ x = 0 ∧ y = 0)
theorem cell2_new (w : World) (T : TypeId) (p q : Value) : (w.alloc (.cells #[p, q] T)).cell? ⟨w.heap.size, 0, none⟩ = some p ∧ (w.alloc (.cells #[p, q] T)).cell? ⟨w.heap.size, 0 + 1, none⟩ = some q := by
  constructor <;> rw [World.cell?_alloc_at _ _ _ _ rfl] <;> rfl

end Go.Proofs.YtefjemkpbkikbaaDoor
