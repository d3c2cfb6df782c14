/-
  rec.Less; pledgeref.Ahead.
-/
import Derived.Test.YtongpgnnhpbcpaaGreatDoorRec2
import Derived.Test.YtongpgnnhpbcpaaGreatDoorSee
import Derived.Test.YtongpgnnhpbcpaaGreatDoorCmp
namespace Go.Proofs.YtongpgnnhpbcpaaGreatDoor
open Go.RowKit
set_option linter.unusedVariables false

theorem less_sign (p a b q c d : Int) : decide (orL [sgv p q, sgv a c, sgv b d] < 0) = aheadB p a b q c d := by
  unfold aheadB sgv
  rw [Bool.eq_iff_iff, decide_eq_true_iff, decide_eq_true_iff]
  simp only [orL]
  repeat' split
  all_goals omega
theorem reads_three (w : World) (e : TypeId) (x y z : Int) : Reads .i64 (w.alloc (.cells #[.int .i64 x, .int .i64 y, .int .i64 z] e)).drew (.slice (some ⟨w.heap.size, 0, none⟩) 3 3) [x, y, z] :=
  (reads_new (k := .i64) (w := w) (e := e) #[.int .i64 x, .int .i64 y, .int .i64 z] [x, y, z] 3 rfl rfl (by decide)).same fun _ _ => rfl
abbrev SixIn (p a b q c d : Int) (g h : Nat) (W : World) : Prop :=
  W.cell? ⟨g, 0, none⟩ = some (.int .i64 p) ∧ W.cell? ⟨g, 1, none⟩ = some (.int .i64 a) ∧ W.cell? ⟨g, 2, none⟩ = some (.int .i64 b) ∧ W.cell? ⟨h, 0, none⟩ = some (.int .i64 q) ∧ W.cell? ⟨h, 1, none⟩ = some (.int .i64 c) ∧ W.cell? ⟨h, 2, none⟩ = some (.int .i64 d)
theorem SixIn.alloc {p a b q c d : Int} {g h : Nat} {W : World} (s : SixIn p a b q c d g h W) (o : Obj) : SixIn p a b q c d g h (W.alloc o) := by
  obtain ⟨h1, h2, h3, h4, h5, h6⟩ := s
  refine ⟨?_, ?_, ?_, ?_, ?_, ?_⟩ <;> (rw [World.cell?_alloc_lt _ _ _ (World.block_lt_of_cell? W _ (by assumption))]; assumption)
theorem drew3 (w : World) (a b c : Nat) : ∃ m, ((w.drewN a).drewN b).drewN c = w.drewN m := ⟨a + b + c, by simp only [World.drewN, Nat.add_assoc]⟩
def AheadRel (xs ys : List Int) (w0 : World) (i : Value) (w : World) : Prop := ∃ k : Nat, k ≤ xs.length ∧ i = .int .i64 (k : Int) ∧ xs.take k = ys.take k ∧ ∃ m, w = w0.drewN m
end Go.Proofs.YtongpgnnhpbcpaaGreatDoor
