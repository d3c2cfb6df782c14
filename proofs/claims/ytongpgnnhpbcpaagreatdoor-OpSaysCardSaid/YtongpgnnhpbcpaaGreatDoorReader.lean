import Derived.Test.YtongpgnnhpbcpaaGreatDoorPut
import Derived.Deep.QuietTactic
import Derived.BigQuiet
namespace Go.Proofs.YtongpgnnhpbcpaaGreatDoor
open Go.RowKit

theorem infoB0 (w : World) : (Instr.buildSlice 24 0 #[]).run Tryz.prog w = .ok (.slice (some ⟨w.heap.size, 0, none⟩) 0 0) (w.alloc (.cells #[] 5)) := by kernel_rfl

set_option maxHeartbeats 800000 in
/-- slices.Clone of bytes: the same bytes, in new memory. -/
theorem clone_any (v : Value) (xs : List Int) (w : World) (h : Reads .u8 w v xs) (hx : xs.length ≤ 1000000000) :
    Calls Tryz.prog 59 #[v] w fun e w' => ∃ v', e = .returned v' ∧ w'.ownsRow w.heap.size 5 1 v' xs.length (cb xs) ∧ Below w.heap.size w w' := by
  have h0 := h
  obtain ⟨a, n, c, rfl, en, hnc, hcm, hn, _⟩ := h
  subst en
  obtain ⟨i0, hi, hz0, hz1, hz2⟩ := info_parts infoB
  have kc := fun (w : World) (a : Option Addr) (n c : Nat) => Go.Lib.run_eql_slice_nil (P := Tryz.prog) w 24 5 a n c 0 0 Tryz.underlying24
  cases a with
  | none =>
    obtain ⟨hl, rfl⟩ := hn rfl
    have : xs = [] := List.eq_nil_of_length_eq_zero hl
    subst this
    clear hn hl h0
    go_enter Tryz.func59, Tryz.ntmps59
    go_wp2
    go_ret
    exact ⟨_, rfl, World.ownsRow_nil _ _ _ _, Below.refl _ _⟩
  | some ad =>
    have hr := hidden (h0.below ((Below.refl w.heap.size w).alloc (Nat.le_refl _) (.cells #[] 5)) (Nat.le_refl _))
    have hown0 : (w.alloc (.cells #[] 5)).ownsRow w.heap.size 5 1 (.slice (some ⟨w.heap.size, 0, none⟩) 0 0) 0 [] := World.ownsRow_made w #[] 0 (Nat.le_refl _) (by decide) rfl
    have hb0 : Below w.heap.size w (w.alloc (.cells #[] 5)) := (Below.refl _ _).alloc (Nat.le_refl _) _
    clear hn h0
    have kb := infoB0
    go_enter Tryz.func59, Tryz.ntmps59
    go_wp2_with (at_builtin; refine wpList_append_own _ rfl _ _ 24 rfl w.heap.size 5 i0 (.int .u8 0) 1 1 Tryz.underlying24 hi hz0 hz1 hz2 rfl (by decide) _ 0 [] rfl hown0 ad xs.length c (cb xs) rfl ?c1 ?c2 ?c3 ?c4 ?c5 ?c6 ?_)
    case c1 => simp [cb]
    case c2 => exact hr.out.cells ad rfl
    case c3 => exact ints_oneCell _ _
    case c4 => unfold maxLen; omega
    case c5 => omega
    case c6 => simp
    intro v' w1 hown1 hg1 _
    go_wp2
    go_ret
    exact ⟨_, rfl, by simpa using hown1, hb0.grown hg1 (by simp) (fun g hg => (hown0.lt g hg).1)⟩

/-- The block of a reader: its bytes, its place, its error. -/
def IsReader (w : World) (g : Nat) (bv : Value) (at_ : Nat) (err : Value) : Prop := w.heap[g]? = some (.cells #[bv, .int .i64 (at_ : Int), err] 105 (0, 0))

theorem IsReader.cells {w : World} {g : Nat} {bv err : Value} {at_ : Nat} (h : IsReader w g bv at_ err) :
    w.cell? ⟨g, 0, none⟩ = some bv ∧ w.cell? ⟨g, 1, none⟩ = some (.int .i64 (at_ : Int)) ∧ w.cell? ⟨g, 2, none⟩ = some err ∧ (∀ o, w.frozen? ⟨g, o, none⟩ = false) := by
  refine ⟨?_, ?_, ?_, fun o => ?_⟩
  all_goals simp [World.cell?, World.frozen?, show _ = _ from h]
end Go.Proofs.YtongpgnnhpbcpaaGreatDoor
