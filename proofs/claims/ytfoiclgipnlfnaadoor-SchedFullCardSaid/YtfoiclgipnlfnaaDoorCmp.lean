/-
  cmp.Compare, cmp.Or at int.
-/
import Derived.Test.YtfoiclgipnlfnaaDoorShare
import Derived.Test.YtfoiclgipnlfnaaDoorProg
import Derived.WalkKit
import Derived.WalkSpells
import Derived.WalkLawsBesides
import Derived.Outline
namespace Go.Proofs.YtfoiclgipnlfnaaDoor
open Go.RowKit
set_option linter.unusedVariables false

/-- -1, 0 or 1. -/
def sgv (x y : Int) : Int := if x < y then -1 else if y < x then 1 else 0
theorem sgv_lt {x y : Int} (h : x < y) : sgv x y = -1 := if_pos h
theorem sgv_gt {x y : Int} (h : y < x) : sgv x y = 1 := by unfold sgv; rw [if_neg (by omega), if_pos h]
theorem sgv_eq (x : Int) : sgv x x = 0 := by unfold sgv; rw [if_neg (by omega), if_neg (by omega)]
theorem nanInt_any (x : Int) (w : World) : Calls Tryd.prog 36 #[.int .i64 x] w fun e w' => e = .returned (.bool false) ∧ w = w' := by
  go_enter Tryd.func36, Tryd.ntmps36
  go_wp2
  go_ret
  exact ⟨rfl, rfl⟩
theorem cmpInt_any (x y : Int) (w : World) :
    Calls Tryd.prog 32 #[.int .i64 x, .int .i64 y] w fun e w' => e = .returned (.int .i64 (sgv x y)) ∧ w = w' := by
  rcases Int.lt_trichotomy x y with h | h | h
  · have hc := hidden (sgv_lt h)
    go_enter Tryd.func32, Tryd.ntmps32
    go_wp2_with (go_at_call 36; refine (nanInt_any _ _).mono ?_; rintro e w' ⟨rfl, rfl⟩)
    go_ret
    exact ⟨ret_int hc.out.symm, rfl⟩
  · subst h
    have hc := hidden (sgv_eq x)
    go_enter Tryd.func32, Tryd.ntmps32
    go_wp2_with (go_at_call 36; refine (nanInt_any _ _).mono ?_; rintro e w' ⟨rfl, rfl⟩)
    go_ret
    exact ⟨ret_int hc.out.symm, rfl⟩
  · have hc := hidden (sgv_gt h)
    have h2 : ¬ x < y := by omega
    go_enter Tryd.func32, Tryd.ntmps32
    go_wp2_with (go_at_call 36; refine (nanInt_any _ _).mono ?_; rintro e w' ⟨rfl, rfl⟩)
    go_ret
    exact ⟨ret_int hc.out.symm, rfl⟩

/-- the first that is not 0. -/
def orL : List Int → Int
  | [] => 0
  | x :: l => if x = 0 then orL l else x
theorem orL_drop {l : List Int} {k : Nat} (h : k < l.length) : orL (l.drop k) = if l.getD k 0 = 0 then orL (l.drop (k + 1)) else l.getD k 0 := by
  rw [List.drop_eq_getElem_cons h, orL, List.getD_eq_getElem?_getD, List.getElem?_eq_getElem h]
  rfl
def OrLAt (l : List Int) (w0 : World) (i : Value) (w : World) : Prop := ∃ k : Nat, k ≤ l.length ∧ i = .int .i64 (k : Int) ∧ orL l = orL (l.drop k) ∧ w0 = w
theorem orL_any (v : Value) (l : List Int) (w : World) (hr : Reads .i64 w v l) :
    Calls Tryd.prog 31 #[v] w fun e w' => e = .returned (.int .i64 (orL l)) ∧ w = w' := by
  have hlm : l.length ≤ 9223372036854775807 := by obtain ⟨_, _, _, _, e, _, h, _⟩ := hr; unfold maxLen at h; omega
  obtain ⟨a, c, rfl⟩ := reads_slice hr
  replace hr := hidden hr
  have hd := hidden (fun k => @orL_drop l k)
  go_enter Tryd.func31, Tryd.ntmps31
  go_wp2_with fail
  go_loopw [8] (fun i wr => OrLAt l w i wr) (fun i _ => l.length - (RowKit.intOf i).toNat)
  case atStart => exact ⟨0, Nat.zero_le _, rfl, rfl, rfl⟩
  case round =>
    obtain ⟨k, hk, rfl, ho, rfl⟩ := hrel
    by_cases hlt : k < l.length
    · obtain ⟨bl, o, rfl, c0⟩ := hr.out.cell k hlt
      have hn := hd.out k hlt
      generalize l.getD k 0 = x at *
      have hki : (k : Int) < (l.length : Int) := by omega
      by_cases hz : x = 0
      · subst hz
        rw [if_pos rfl] at hn
        rw [hn] at ho
        replace ho := hidden ho
        clear hn
        go_wp2
        go_roundw
        case rel => exact ⟨k + 1, hlt, by go_num, ho.out, rfl⟩
        case measure => simp [RowKit.intOf]; omega
      · have hne : (x != 0) = true := by simpa using hz
        rw [if_neg hz] at hn
        rw [hn] at ho
        replace ho := hidden ho
        clear hn hz
        go_wp2
        go_ret
        exact ⟨ret_int ho.out.symm, rfl⟩
    · obtain rfl : k = l.length := by omega
      rw [List.drop_length] at ho
      replace ho := hidden ho
      go_wp2
      go_ret
      exact ⟨ret_int ho.out.symm, rfl⟩
end Go.Proofs.YtfoiclgipnlfnaaDoor
