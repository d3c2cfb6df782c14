/-
  What a ladder is told; a ladder and the document's own, side by side.
-/
import Derived.Test.YthlepeeejmeahaaDoorCutLaw
import Derived.Test.YthlepeeejmeahaaDoorCutRef2
import Derived.Test.YthlepeeejmeahaaDoorIsSelf
namespace Go.Proofs.YthlepeeejmeahaaDoor
open Go.RowKit
set_option linter.unusedVariables false

/-- something that a ladder is told: its kind, class, bucket, cut. -/
structure DoT where
  k : Int
  c : Int
  b : Int
  x : Int
def doZ : DoT := ⟨0, 0, 0, 0⟩
def doV (d : DoT) : List Value := [.int .i64 d.k, .int .i64 d.c, .int .i64 d.b, .int .i64 d.x]
theorem doV_len (d : DoT) : (doV d).length = 4 := rfl
abbrev doO (d : DoT) : Obj := .cells #[.int .i64 d.k, .int .i64 d.c, .int .i64 d.b, .int .i64 d.x] 36
def DoBig (d : DoT) : Prop := (-9223372036854775808 ≤ d.k ∧ d.k ≤ 9223372036854775807) ∧ (-9223372036854775808 ≤ d.c ∧ d.c ≤ 9223372036854775807) ∧ (-9223372036854775808 ≤ d.b ∧ d.b ≤ 9223372036854775807) ∧ (-9223372036854775808 ≤ d.x ∧ d.x ≤ 9223372036854775807)
theorem rowDo_at {w : World} {a : Option Addr} {n c : Nat} {l : List DoT} (h : Row doV 4 w (.slice a n c) l) (k : Nat) (hk : k < n) : ∃ b o, a = some ⟨b, o, none⟩ ∧
    w.cell? ⟨b, o + k * 4, none⟩ = some (.int .i64 (l.getD k doZ).k) ∧ w.cell? ⟨b, o + k * 4 + 1, none⟩ = some (.int .i64 (l.getD k doZ).c) ∧ w.cell? ⟨b, o + k * 4 + 2, none⟩ = some (.int .i64 (l.getD k doZ).b) ∧ w.cell? ⟨b, o + k * 4 + 3, none⟩ = some (.int .i64 (l.getD k doZ).x) := by
  obtain ⟨b, o, rfl, hc⟩ := h.at doV_len doZ k hk (by decide)
  exact ⟨b, o, rfl, hc 0 (by omega), hc 1 (by omega), hc 2 (by omega), hc 3 (by omega)⟩
theorem setC_code (s : StepT) (x : Int) : codeOk (setC s x) := by
  unfold setC
  split
  · exact .inl rfl
  · exact .inr (by decide)
theorem fxC_code (x : Int) : codeOk (fxC x) := by
  unfold fxC
  split
  · exact .inl rfl
  · exact .inr (by decide)
/-- a block of cells that is not the ladder's stays, whatever the ladder is told. -/
theorem LadAt.apart {w w' : World} {B g n k : Nat} {T : StepT → Option Int} {fx : Int} (h : LadAt w B g n T fx) (ht : Trd (ladB w g) w w') (hk : k ≠ g) {cs : Array Value} {t : TypeId} {fr : Nat × Nat} (hr : w.heap[k]? = some (.cells cs t fr)) : w'.heap[k]? = some (.cells cs t fr) := by
  rw [ht.block k (Array.getElem?_eq_some_iff.1 hr).1 (fun q => by
    rcases (h.blocks q).2.2 with e | ⟨es, c, e⟩
    · exact hk e
    · rw [hr] at e; cases e)]
  exact hr
/-- where a block of cells is turned that is not the ladder's, the ladder stays. -/
theorem LadAt.other {w w' : World} {B g n k : Nat} {T : StepT → Option Int} {fx : Int} (h : LadAt w B g n T fx) (ht : Trd (· = k) w w') (hk : k ≠ g) {cs : Array Value} {t : TypeId} {fr : Nat × Nat} (hr : w.heap[k]? = some (.cells cs t fr)) : LadAt w' B g n T fx := by
  refine h.trd ht fun j hj e => ?_
  have e : j = k := e
  subst e
  rcases (h.blocks hj).2.2 with e | ⟨es, c, e⟩
  · exact hk e
  · rw [hr] at e; cases e
theorem CutsAt.lad {w w' : World} {B g h n : Nat} {T T' : StepT → Option Int} {fx fx' : Int} (hC : CutsAt w h T' fx') (hL : LadAt w B g n T fx) (ht : Trd (ladB w g) w w') (hne : h ≠ g) : CutsAt w' h T' fx' := ⟨hL.apart ht hne hC.row, hC.cut, hC.fxOk⟩
/-- the block of what is told, behind all that was there. -/
abbrev DoS (w0 : World) (k : Nat) (d : DoT) (W : World) : Prop :=
  (W.cell? ⟨k, 0, none⟩ = some (.int .i64 d.k) ∧ W.cell? ⟨k, 1, none⟩ = some (.int .i64 d.c) ∧ W.cell? ⟨k, 2, none⟩ = some (.int .i64 d.b) ∧ W.cell? ⟨k, 3, none⟩ = some (.int .i64 d.x)) ∧ W.heap[k]? = some (doO d) ∧ Below w0.heap.size w0 W
theorem doS_of {w0 W : World} {k : Nat} {d : DoT} (h : W.heap[k]? = some (doO d)) (hb : Below w0.heap.size w0 W) : DoS w0 k d W := by
  refine ⟨⟨?_, ?_, ?_, ?_⟩, h, hb⟩ <;> (rw [cell_of_row _ _ _ _ _ _ h]; rfl)
theorem doS_drew {w0 W : World} {k : Nat} {d : DoT} (h : DoS w0 k d W) : DoS w0 k d W.drew := ⟨h.1, h.2.1, h.2.2.drew⟩
theorem doS_low {w0 W : World} {k : Nat} {d : DoT} (h : DoS w0 k d W) : Below w0.heap.size w0 W := h.2.2
theorem doS_next {w0 W W' : World} {k : Nat} {d : DoT} (h : DoS w0 k d W) (hb : Below W.heap.size W W') : DoS w0 k d W' :=
  doS_of ((hb.block _ (Array.getElem?_eq_some_iff.1 h.2.1).1).trans h.2.1) (h.2.2.trans (hb.mono h.2.2.size))
theorem doS_lad {w0 W W' : World} {k g n : Nat} {T : StepT → Option Int} {fx : Int} {d : DoT} (h : DoS w0 k d W) (hL : LadAt W w0.heap.size g n T fx) (ht : Trd (ladB W g) W W') (hk : k ≠ g) : DoS w0 k d W' :=
  doS_of (hL.apart ht hk h.2.1) (h.2.2.trans (hL.keeps ht h.2.2.size))
theorem doS_trd {w0 W W' : World} {k g : Nat} {d : DoT} (h : DoS w0 k d W) (ht : Trd (· = g) W W') (hk : k ≠ g) (hg : w0.heap.size ≤ g) : DoS w0 k d W' :=
  doS_of ((ht.block _ (Array.getElem?_eq_some_iff.1 h.2.1).1 hk).trans h.2.1) (h.2.2.trans (ht.below (fun j hj => by rw [hj]; exact hg) h.2.2.size))
/-- a ladder in block g and the document's cuts in block h, with the same table. -/
structure PairAt (w0 w : World) (g h n : Nat) (T : StepT → Option Int) (fx : Int) : Prop where
  lad : LadAt w w0.heap.size g n T fx
  cut : CutsAt w h T fx
  ne : h ≠ g
  hi : w0.heap.size ≤ h
section
variable {w0 W W' : World} {g h n : Nat} {T : StepT → Option Int} {fx : Int}
theorem PairAt.below (p : PairAt w0 W g h n T fx) (hb : Below W.heap.size W W') : PairAt w0 W' g h n T fx := ⟨p.lad.below hb (Nat.le_refl _), p.cut.below hb, p.ne, p.hi⟩
theorem PairAt.drew (p : PairAt w0 W g h n T fx) : PairAt w0 W.drew g h n T fx := ⟨p.lad.same fun _ _ => rfl, p.cut.block rfl, p.ne, p.hi⟩
theorem PairAt.mono {n' : Nat} (p : PairAt w0 W g h n T fx) (hn : n ≤ n') : PairAt w0 W g h n' T fx := ⟨p.lad.mono hn, p.cut, p.ne, p.hi⟩
end
/-- both new. -/
theorem pairAt_new {w0 W : World} (hb : Below w0.heap.size w0 W) : PairAt w0 ((W.alloc (.cells #[.map none, .int .i64 0] 28)).alloc (.cells (cutC noT 0) 34)) W.heap.size (W.heap.size + 1) 0 noT 0 ∧
    Below w0.heap.size w0 ((W.alloc (.cells #[.map none, .int .i64 0] 28)).alloc (.cells (cutC noT 0) 34)) := by
  obtain ⟨h1, h2⟩ := lnew12 hb
  have h3 := cutsAt_new (W.alloc (.cells #[.map none, .int .i64 0] 28))
  have hs : (W.alloc (.cells #[.map none, .int .i64 0] 28)).heap.size = W.heap.size + 1 := by simp
  rw [hs] at h3
  have hbs := hb.size
  exact ⟨⟨h1.below ((Below.refl _ _).alloc (Nat.le_refl _) _) (Nat.le_refl _), h3, by omega, by omega⟩, h2.alloc h2.size _⟩
theorem rowSt_at {w : World} {a : Option Addr} {n c : Nat} {l : List StepT} (h : Row stepV 2 w (.slice a n c) l) (k : Nat) (hk : k < n) : ∃ b o, a = some ⟨b, o, none⟩ ∧
    w.cell? ⟨b, o + k * 2, none⟩ = some (.int .i64 (l.getD k (0, 0)).1) ∧ w.cell? ⟨b, o + k * 2 + 1, none⟩ = some (.int .i64 (l.getD k (0, 0)).2) := by
  obtain ⟨b, o, rfl, hc⟩ := h.at stepV_len (0, 0) k hk (by decide)
  exact ⟨b, o, rfl, hc 0 (by omega), hc 1 (by omega)⟩
abbrev CuS (w0 : World) (h : Nat) (fx : Int) (W : World) : Prop := W.cell? ⟨h, 72, none⟩ = some (.int .i64 fx) ∧ Below w0.heap.size w0 W
theorem cuS_next {w0 W W' : World} {h : Nat} {fx : Int} (s : CuS w0 h fx W) (hb : Below W.heap.size W W') : CuS w0 h fx W' :=
  ⟨by rw [World.cell?_of_block (w := W) (hb.block _ (World.block_lt_of_cell? W _ s.1))]; exact s.1, s.2.trans (hb.mono s.2.size)⟩
theorem cuS_drew {w0 W : World} {h : Nat} {fx : Int} (s : CuS w0 h fx W) : CuS w0 h fx W.drew := ⟨s.1, s.2.drew⟩
end Go.Proofs.YthlepeeejmeahaaDoor
