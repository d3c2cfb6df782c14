/-
  rec.Pack, rec.Unpack.
-/
import Derived.Test.YtongpgnnhpbcpaaGreatDoorRec1
import Derived.Test.YtongpgnnhpbcpaaGreatDoorBase
import Derived.Test.YtongpgnnhpbcpaaGreatDoorRef
import Derived.Test.YtongpgnnhpbcpaaGreatDoorRest
import Derived.Test.YtongpgnnhpbcpaaGreatDoorLaw
import Derived.RegionTactic
namespace Go.Proofs.YtongpgnnhpbcpaaGreatDoor
open Go.RowKit
set_option linter.unusedVariables false

/-- a number at the beginning: it, and how long it is; or the error's number (0: too early, 1: not as it has to be, 2: out of range). -/
def numC (xs : List Int) : (Int × Nat) ⊕ Nat :=
  match dec 0 0 xs with
  | .fin => .inr 0
  | .shape => .inr 1
  | .ok u n => if -9223372036854775808 ≤ uz u ∧ uz u ≤ 9223372036854775807 then .inl (uz u, n) else .inr 2
def rdNext (xs : List Int) (p : Nat) (bad : Option Nat) : Int × Nat × Option Nat :=
  match bad with
  | some c => (0, p, some c)
  | none => match numC (xs.drop p) with
    | .inl (x, n) => (x, p + n, none)
    | .inr c => (0, p, some c)
structure RdSt where
  vs : List Int
  p : Nat
  bad : Option Nat
def rdS (xs : List Int) : Nat → RdSt
  | 0 => ⟨[], 0, none⟩
  | k + 1 => let s := rdS xs k; let r := rdNext xs s.p s.bad; ⟨s.vs ++ [r.1], r.2.1, r.2.2⟩
theorem rdS_vs (xs : List Int) (k : Nat) : (rdS xs (k + 1)).vs = (rdS xs k).vs ++ [(rdNext xs (rdS xs k).p (rdS xs k).bad).1] := rfl
theorem rdS_p (xs : List Int) (k : Nat) : (rdS xs (k + 1)).p = (rdNext xs (rdS xs k).p (rdS xs k).bad).2.1 := rfl
theorem rdS_bad (xs : List Int) (k : Nat) : (rdS xs (k + 1)).bad = (rdNext xs (rdS xs k).p (rdS xs k).bad).2.2 := rfl
theorem rdS_len (xs : List Int) : ∀ k, (rdS xs k).vs.length = k
  | 0 => rfl
  | k + 1 => by rw [rdS_vs, List.length_append, rdS_len xs k]; rfl
theorem numC_code {xs : List Int} {c : Nat} (h : numC xs = .inr c) : c < 3 := by
  unfold numC at h
  split at h
  · cases h; decide
  · cases h; decide
  · split at h
    · cases h
    · cases h; decide
theorem rdNext_code {xs : List Int} {p : Nat} {bad : Option Nat} (hb : ∀ c, bad = some c → c < 3) : ∀ c, (rdNext xs p bad).2.2 = some c → c < 3 := by
  intro c h
  unfold rdNext at h
  split at h
  · exact hb c h
  · split at h
    · cases h
    · rename_i hc
      cases h
      exact numC_code hc
theorem rdS_code (xs : List Int) : ∀ k c, (rdS xs k).bad = some c → c < 3
  | 0, c, h => by cases h
  | k + 1, c, h => rdNext_code (rdS_code xs k) c h
theorem numOf_numC (A : Nat → Addr) (xs : List Int) : numOf (A 0) (A 1) (A 2) xs (-9223372036854775808) 9223372036854775807 = match numC xs with | .inl r => .inl r | .inr c => .inr (A c) := by
  unfold numOf numC
  cases dec 0 0 xs with
  | fin => rfl
  | shape => rfl
  | ok u n =>
    simp only
    split <;> rfl
/-- the reader's next number, whatever it has met. -/
theorem num_rd (A : Nat → Addr) (B g p : Nat) (xs : List Int) (bad : Option Nat) (w : World) (h : Rdr w B g xs p (bad.map A)) (hx : xs.length ≤ 1000000000) (hbyte : ∀ x ∈ xs, 0 ≤ x ∧ x ≤ 255) (he : Errs3 w (A 0) (A 1) (A 2)) :
    Calls Tryz.prog 35 #[.pointer (some ⟨g, 0, none⟩), .int .i64 (-9223372036854775808), .int .i64 9223372036854775807] w fun e w' =>
      e = .returned (.int .i64 (rdNext xs p bad).1) ∧ Rdr w' B g xs (rdNext xs p bad).2.1 ((rdNext xs p bad).2.2.map A) ∧ w.grownBy w' (some g) := by
  cases bad with
  | some c =>
    refine (num_stopped B g p xs _ _ (A c) w h).mono ?_
    rintro e w' ⟨rfl, rfl⟩
    exact ⟨rfl, h, ⟨rfl, rfl, rfl, Nat.le_refl _, fun _ _ _ => rfl⟩⟩
  | none =>
    have hn := numOf_numC A (xs.drop p)
    unfold rdNext
    cases hc : numC (xs.drop p) with
    | inl r =>
      obtain ⟨x, n⟩ := r
      rw [hc] at hn
      exact num_good B g p n xs _ _ x (A 0) (A 1) (A 2) w h hx hbyte he hn
    | inr c =>
      rw [hc] at hn
      exact num_bad B g p xs _ _ (A 0) (A 1) (A 2) (A c) w h hx hbyte he hn
/-- what Unpack comes to: the numbers, or the error's number and its place. -/
def unp (xs : List Int) (n : Nat) : List Int ⊕ (Nat × Nat) :=
  match (rdS xs n).bad with
  | some c => .inr (c, (rdS xs n).p)
  | none => if (rdS xs n).p < xs.length then .inr (1, (rdS xs n).p) else .inl (rdS xs n).vs
/-- a reader is not touched by what is written into a row of numbers. -/
theorem Rdr.beside {w w' : World} {B g p gl : Nat} {xs l : List Int} {bad : Option Addr} (h : Rdr w B g xs p bad) (hl : LongAt w gl l) (hk : w.grownBy w' (some gl)) : Rdr w' B g xs p bad := by
  obtain ⟨hB, hp, bv, errv, hg, hown, he⟩ := h
  have ne : ∀ (k : Nat) (cs : Array Value) (t : TypeId) fr, w.heap[k]? = some (.cells cs t fr) → t ≠ 2 → w'.heap[k]? = w.heap[k]? := fun k cs t fr hk2 ht => by
    refine hk.block k (Array.getElem?_eq_some_iff.1 hk2).1 fun e => ?_
    simp only [Option.some.injEq] at e
    subst e
    unfold LongAt at hl
    rw [hl] at hk2
    simp only [Option.some.injEq, Obj.cells.injEq] at hk2
    exact ht hk2.2.1.symm
  refine ⟨hB, hp, bv, errv, by rw [ne g _ _ _ hg (by decide)]; exact hg, own_other hown hl (by decide) hk, ?_⟩
  cases bad with
  | none => exact he
  | some a =>
    obtain ⟨ga, e1, e2, e3, e4⟩ := he
    exact ⟨ga, e1, e2, e3, by rw [ne ga _ _ _ e4 (by decide)]; exact e4⟩
/-- Unpack's rounds. -/
def UnpRel (A : Nat → Addr) (xs : List Int) (N g gl : Nat) (w0 : World) (i : Value) (w : World) : Prop :=
  ∃ k : Nat, k ≤ N ∧ i = .int .i64 (k : Int) ∧ Rdr w w0.heap.size g xs (rdS xs k).p ((rdS xs k).bad.map A) ∧ LongAt w gl ((rdS xs k).vs ++ List.replicate (N - k) 0) ∧ Below w0.heap.size w0 w
def UnpAt (A : Nat → Addr) (xs : List Int) (N : Nat) (w : World) (e : Ending) (w' : World) : Prop :=
  Below w.heap.size w w' ∧ match unp xs N with
    | .inl vs => ∃ v, e = .returned (.tuple #[v, .nilIface]) ∧ Reads .i64 w' v vs
    | .inr (c, p) => ∃ ga, e = .returned (.tuple #[.slice none 0 0, .iface 74 (.pointer (some ⟨ga, 0, none⟩))]) ∧ AtIn w' ga p (A c)
theorem unp_set {xs : List Int} {N k : Nat} (h : k < N) : ((rdS xs k).vs ++ List.replicate (N - k) 0).set k (rdNext xs (rdS xs k).p (rdS xs k).bad).1 = (rdS xs (k + 1)).vs ++ List.replicate (N - (k + 1)) 0 := by
  rw [rdS_vs, List.set_append_right _ _ (by rw [rdS_len]; omega), rdS_len, Nat.sub_self, show N - k = (N - (k + 1)) + 1 by omega, List.replicate_succ]
  simp

theorem errs3_of {w0 w : World} {A : Nat → Addr} (h : ErrsOn [0, 1, 2] w0 A) (hb : Below w0.heap.size w0 w) : Errs3 w (A 0) (A 1) (A 2) := by
  have := h.below hb (Nat.le_refl _)
  exact ⟨this 0 (by simp), this 1 (by simp), this 2 (by simp)⟩
end Go.Proofs.YtongpgnnhpbcpaaGreatDoor
