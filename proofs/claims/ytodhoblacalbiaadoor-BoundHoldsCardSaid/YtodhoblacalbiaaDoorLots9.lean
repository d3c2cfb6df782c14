/-
  Greedy.
-/
import Derived.Test.YtodhoblacalbiaaDoorLots8
namespace Go.Proofs.YtodhoblacalbiaaDoor
open Go.RowKit
set_option linter.unusedVariables false

def grB (L : List Lt) (C : List Int) (n : Int) : Bool := decide (OkP L C n) && !decide ((gR L C n).2 < n)
def grL (L : List Lt) (C : List Int) (n : Int) : List Int := if grB L C n = true then (gR L C n).1 else []
theorem grB_bad {L : List Lt} {C : List Int} {n : Int} (h : ¬ OkP L C n) : grB L C n = false := by unfold grB; rw [decide_eq_false h]; rfl
theorem grB_less {L : List Lt} {C : List Int} {n : Int} (h : (gR L C n).2 < n) : grB L C n = false := by unfold grB; rw [decide_eq_true h]; simp
theorem grB_fine {L : List Lt} {C : List Int} {n : Int} (h : OkP L C n) (g : ¬ (gR L C n).2 < n) : grB L C n = true := by unfold grB; rw [decide_eq_true h, decide_eq_false g]; rfl
theorem grL_no {L : List Lt} {C : List Int} {n : Int} (h : grB L C n = false) : grL L C n = [] := by unfold grL; rw [h]; rfl
theorem grL_yes {L : List Lt} {C : List Int} {n : Int} (h : grB L C n = true) : grL L C n = (gR L C n).1 := by unfold grL; rw [h]; rfl
theorem ret_vb {v : Value} {a b : Bool} (h : a = b) : Ending.returned (.tuple #[v, .bool a]) = .returned (.tuple #[v, .bool b]) := by rw [h]
structure GrAt (w0 : World) (T : TypeId) (p tg og : Nat) (lv cv : Value) (n : Int) (t : List Int) (o : List Nat) (N : Nat) (w : World) : Prop where
  pb : PbAt w p T lv cv n
  tk : NumAt inTy w tg t
  od : Reads .i64 w (.slice (some ⟨og, 0, none⟩) N N) (nats o)
  low : Below w0.heap.size w0 w
  ne1 : p ≠ tg
  ne2 : og ≠ tg
  hi : w0.heap.size ≤ tg
section
variable {w0 w w' : World} {T : TypeId} {p tg og : Nat} {lv cv : Value} {n : Int} {t : List Int} {o : List Nat} {N : Nat}
theorem GrAt.below (h : GrAt w0 T p tg og lv cv n t o N w) (hb : Below w.heap.size w w') : GrAt w0 T p tg og lv cv n t o N w' :=
  ⟨h.pb.below hb (Nat.le_refl _), h.tk.below hb (Nat.le_refl _), h.od.below hb (Nat.le_refl _), h.low.trans (hb.mono h.low.size), h.ne1, h.ne2, h.hi⟩
theorem GrAt.drewN (h : GrAt w0 T p tg og lv cv n t o N w) (k : Nat) : GrAt w0 T p tg og lv cv n t o N (w.drewN k) :=
  ⟨⟨h.pb.row⟩, h.tk, h.od.same fun _ _ => rfl, below_drewN h.low, h.ne1, h.ne2, h.hi⟩
theorem GrAt.put (h : GrAt w0 T p tg og lv cv n t o N w) (i : Nat) (x : Int) : GrAt w0 T p tg og lv cv n (t.set i x) o N (w.setCell ⟨tg, i, none⟩ (.int .i64 x)) :=
  ⟨⟨by rw [(Trd.setCell (S := (· = tg)) w ⟨tg, i, none⟩ (.int .i64 x) rfl).block p h.pb.lt h.ne1]; exact h.pb.row⟩, h.tk.set i x,
    h.od.trd (Trd.setCell (S := (· = tg)) w ⟨tg, i, none⟩ (.int .i64 x) rfl) (fun b hb => by
      have : og = b := by simpa [Value.ownBlock] using hb
      rw [← this]; exact h.ne2), h.low.setCell (p := ⟨tg, i, none⟩) h.hi _, h.ne1, h.ne2, h.hi⟩
end
def GrRel1 (L : List Lt) (C : List Int) (w0 : World) (p tg og : Nat) (lv cv : Value) (n : Int) (o : List Nat) (N : Nat) (i h : Value) (w : World) : Prop :=
  ∃ (k : Nat) (s : List Int × Int), k ≤ o.length ∧ i = .int .i64 (k : Int) ∧ h = .int .i64 s.2 ∧ gAll L C n (o.drop k) s = gR L C n ∧ GInv L C n s ∧ GrAt w0 pbTy p tg og lv cv n s.1 o N w
def GrRel2 (L : List Lt) (C : List Int) (w0 : World) (p tg og : Nat) (lv cv : Value) (n : Int) (o : List Nat) (N : Nat) (i : Nat) (s0 : List Int × Int) (h : Value) (w : World) : Prop :=
  ∃ (f : Nat) (s : List Int × Int), h = .int .i64 s.2 ∧ (L.getD i ltZ).u - s.1.getD i 0 ≤ (f : Int) ∧ gl L C n i f s = s0 ∧ GInv L C n s ∧ GrAt w0 pbTy p tg og lv cv n s.1 o N w
theorem gAll_step {L : List Lt} {C : List Int} {n : Int} {o : List Nat} {k : Nat} (hk : k < o.length) (s : List Int × Int) : gAll L C n (o.drop k) s = gAll L C n (o.drop (k + 1)) (gl L C n (o.getD k 0) 1000 s) := by
  rw [List.drop_eq_getElem_cons hk, List.getD_eq_getElem?_getD, List.getElem?_eq_getElem hk]
  rfl
def GreedyAt (L : List Lt) (C : List Int) (n : Int) (w : World) (e : Ending) (w' : World) : Prop := ∃ v, e = .returned (.tuple #[v, .bool (grB L C n)]) ∧ Reads .i64 w' v (grL L C n) ∧ Below w.heap.size w w'
theorem gAll_end {L : List Lt} {C : List Int} {n : Int} {o : List Nat} (s : List Int × Int) : gAll L C n (o.drop o.length) s = s := by rw [List.drop_length]; rfl
theorem ok_vals {L : List Lt} {C : List Int} {n : Int} (h : OkP L C n) : ∀ x ∈ L, 0 ≤ x.v := fun x hx => (h.2.1 x hx).2.1.1
theorem fill_zero (n : Nat) : fillL (List.replicate n 0) 0 = List.replicate n 0 := by unfold fillL; simp
end Go.Proofs.YtodhoblacalbiaaDoor
