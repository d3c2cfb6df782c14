import Derived.Test.YtlanggdmdpjfbaaDoorStressRef
import Derived.Test.YtlanggdmdpjfbaaDoorLaidOn
import Derived.Deep.DeepCutAuto
namespace Go.Proofs.YtlanggdmdpjfbaaDoor
open Go.RowKit
set_option linter.unusedVariables false

/-- a block of cells that is not the table's stays, whatever the table is told. -/
theorem LoAt.apart {w w' : World} {B g n k : Nat} {T : LTab} (h : LoAt w B g n T) (ht : Trd (loB w g) w w') (hk : k ≠ g) {cs : Array Value} {t : TypeId} {fr : Nat × Nat} (hr : w.heap[k]? = some (.cells cs t fr)) : w'.heap[k]? = some (.cells cs t fr) := keepsRows22_of h ht k cs t fr hk hr
/-- where a block of cells is turned that is not the table's, the table stays. -/
theorem LoAt.other {w w' : World} {B g n k : Nat} {T : LTab} (h : LoAt w B g n T) (ht : Trd (· = k) w w') (hk : k ≠ g) {cs : Array Value} {t : TypeId} {fr : Nat × Nat} (hr : w.heap[k]? = some (.cells cs t fr)) : LoAt w' B g n T := by
  refine h.trd ht fun j hj e => ?_
  have e : j = k := e
  subst e
  rcases (h.blocks hj).2.2 with e | ⟨es, c, e⟩
  · exact hk e
  · rw [hr] at e; cases e
theorem RlAt.lo22 {w w' : World} {B g h n : Nat} {T T' : LTab} (hC : RlAt w h T') (hL : LoAt w B g n T) (ht : Trd (loB w g) w w') (hne : h ≠ g) : RlAt w' h T' := ⟨hL.apart ht hne hC.row, hC.lo⟩
abbrev LdS (w0 : World) (b o : Nat) (s m x : Int) (W : World) : Prop := (W.cell? ⟨b, o, none⟩ = some (.int .i64 s) ∧ W.cell? ⟨b, o + 1, none⟩ = some (.int .i64 m) ∧ W.cell? ⟨b, o + 2, none⟩ = some (.int .i64 x)) ∧ Below w0.heap.size w0 W
section
variable {w0 W W' : World} {b o g n : Nat} {s m x : Int} {T : LTab}
theorem ldS_low (h : LdS w0 b o s m x W) : Below w0.heap.size w0 W := h.2
theorem ldS_step (hn : ∀ W, Below w0.heap.size w0 W → LdS w0 b o s m x W) (h : LdS w0 b o s m x W) (hb : Below W.heap.size W W') : LdS w0 b o s m x W' := hn _ (h.2.trans (hb.mono h.2.size))
theorem ldS_lo (hn : ∀ W, Below w0.heap.size w0 W → LdS w0 b o s m x W) (h : LdS w0 b o s m x W) (hL : LoAt W w0.heap.size g n T) (ht : Trd (loB W g) W W') : LdS w0 b o s m x W' := hn _ (h.2.trans (hL.keeps ht h.2.size))
theorem ldS_trd (hn : ∀ W, Below w0.heap.size w0 W → LdS w0 b o s m x W) (h : LdS w0 b o s m x W) (ht : Trd (· = g) W W') (hg : w0.heap.size ≤ g) : LdS w0 b o s m x W' := hn _ (h.2.trans (ht.below (fun j hj => by rw [hj]; exact hg) h.2.size))
end
theorem setLC_code (s : CelT) (x : Int) : codeOk (setLC s x) := by
  unfold setLC
  split
  · exact .inl rfl
  · exact .inr (by decide)
theorem twoC_codeOk (T : LTab) (s : Int) (l : List Int) : codeOk (twoC T s l) := by
  have := twoC_code T s l
  unfold codeOk
  omega
theorem covC_codeOk (T : LTab) (l : List Int) : codeOk (covR T l).c := by
  have := covS_code T l 16
  unfold codeOk covR
  omega
theorem topC_codeOk (l : List Int) : codeOk (topC l) := by
  have := topC_code l
  unfold codeOk
  omega
theorem rowCel_at {w : World} {a : Option Addr} {n c : Nat} {l : List CelT} (h : Row celCs 2 w (.slice a n c) l) (k : Nat) (hk : k < n) : ∃ b o, a = some ⟨b, o, none⟩ ∧
    w.cell? ⟨b, o + k * 2, none⟩ = some (.int .i64 (l.getD k (0, 0)).1) ∧ w.cell? ⟨b, o + k * 2 + 1, none⟩ = some (.int .i64 (l.getD k (0, 0)).2) := by
  obtain ⟨b, o, rfl, hc⟩ := h.at celCs_len (0, 0) k hk (by decide)
  exact ⟨b, o, rfl, hc 0 (by omega), hc 1 (by omega)⟩
def LpRel (N g h : Nat) (w0 : World) (i : Value) (w : World) : Prop :=
  ∃ (k : Nat) (T : LTab), k ≤ N ∧ i = .int .i64 (k : Int) ∧ LoAt w w0.heap.size g k T ∧ RlAt w h T ∧ Below w0.heap.size w0 w
def LpOut (T : LTab) (w0 : World) (n i : Value) (w : World) : Prop := ∃ k : Nat, k ≤ 16 ∧ i = .int .i64 ((k : Int) + 1) ∧ n = .int .i64 (((allLK T k).length : Nat) : Int) ∧ w0 = w
def LpIn (T : LTab) (k : Nat) (w0 : World) (n i : Value) (w : World) : Prop := ∃ j : Nat, j ≤ 32 ∧ i = .int .i64 ((j : Int) + 1) ∧ n = .int .i64 (((preL T k j).length : Nat) : Int) ∧ w0 = w
abbrev AskS (w0 : World) (p : Nat) (c d : Int) (W : World) : Prop := (W.cell? ⟨p, 0, none⟩ = some (.int .i64 c) ∧ W.cell? ⟨p, 1, none⟩ = some (.int .i64 d)) ∧ Below w0.heap.size w0 W
end Go.Proofs.YtlanggdmdpjfbaaDoor
