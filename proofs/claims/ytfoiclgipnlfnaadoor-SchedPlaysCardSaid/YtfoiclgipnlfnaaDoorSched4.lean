/-
  slices.BinarySearchFunc at entries in order: the place, and whether there is one of that day and class.
-/
import Derived.Test.YtfoiclgipnlfnaaDoorSched3
namespace Go.Proofs.YtfoiclgipnlfnaaDoor
open Go.RowKit
set_option linter.unusedVariables false

theorem en_new {w W : World} {e : En} (hb : Below (w.alloc (enO e)).heap.size (w.alloc (enO e)) W) : TriAt W w.heap.size 0 e := by
  have h : W.heap[w.heap.size]? = some (enO e) := (hb.block _ (by simp)).trans (heap_alloc_new w _)
  refine ⟨?_, ?_, ?_⟩ <;> (rw [cell_of_row _ _ _ _ _ _ h]; rfl)
abbrev TriSelf (w0 : World) (b o : Nat) (x : En) (g : Nat) (ed ec : Int) (eo : Bool) (W : World) : Prop :=
  (W.cell? ⟨b, o, none⟩ = some (.int .i64 x.d) ∧ W.cell? ⟨b, o + 1, none⟩ = some (.int .i64 x.c) ∧ W.cell? ⟨b, o + 2, none⟩ = some (.bool x.o)) ∧ (W.cell? ⟨g, 0, none⟩ = some (.int .i64 ed) ∧ W.cell? ⟨g, 1, none⟩ = some (.int .i64 ec) ∧ W.cell? ⟨g, 2, none⟩ = some (.bool eo)) ∧ Below w0.heap.size w0 W
theorem triSelf_next {w0 W W' : World} {b o g : Nat} {x : En} {ed ec : Int} {eo : Bool} (h : TriSelf w0 b o x g ed ec eo W) (hb : Below W.heap.size W W') : TriSelf w0 b o x g ed ec eo W' := ⟨tri_below h.1 hb, tri_below (o := 0) (e := ⟨ed, ec, eo⟩) h.2.1 hb, h.2.2.trans (hb.mono h.2.2.size)⟩
theorem triSelf_drew {w0 W : World} {b o g : Nat} {x : En} {ed ec : Int} {eo : Bool} (h : TriSelf w0 b o x g ed ec eo W) : TriSelf w0 b o x g ed ec eo W.drew := ⟨h.1, h.2.1, h.2.2.drew⟩
theorem triSelf_low {w0 W : World} {b o g : Nat} {x : En} {ed ec : Int} {eo : Bool} (h : TriSelf w0 b o x g ed ec eo W) : Below w0.heap.size w0 W := h.2.2
def LowE (l : List En) (e : En) (i : Nat) : Prop := ∀ p, p < i → aheadE (l.getD p enZ) e
def HighE (l : List En) (e : En) (j : Nat) : Prop := ∀ p, j ≤ p → p < l.length → ¬ aheadE (l.getD p enZ) e
theorem lowE_next {l : List En} {e : En} (hs : SortedE l) {h : Nat} (hl : h < l.length) (ha : aheadE (l.getD h enZ) e) : LowE l e (h + 1) := fun p hp => by
  by_cases q : p = h
  · rw [q]; exact ha
  · have := hs p h (by omega) hl
    unfold aheadE at *
    omega
theorem highE_next {l : List En} {e : En} (hs : SortedE l) {h : Nat} (ha : ¬ aheadE (l.getD h enZ) e) : HighE l e h := fun p hp hl => by
  by_cases q : p = h
  · rw [q]; exact ha
  · have := hs h p (by omega) hl
    unfold aheadE at *
    omega
theorem placeE_of {l : List En} {e : En} {i : Nat} (hi : i ≤ l.length) (h1 : LowE l e i) (h2 : HighE l e i) : plE l e = i := plE_eq ⟨hi, h1, fun h => h2 i (Nat.le_refl _) h⟩
def BsRel (l : List En) (e : En) (w0 : World) (v9 v10 : Value) (w : World) : Prop := ∃ i j : Nat, v9 = .int .i64 (i : Int) ∧ v10 = .int .i64 (j : Int) ∧ i ≤ j ∧ j ≤ l.length ∧ LowE l e i ∧ HighE l e j ∧ Below w0.heap.size w0 w
theorem hitE_yes {l : List En} {e : En} {i : Nat} (hp : plE l e = i) (hi : i < l.length) (h2 : HighE l e i) : hitE l e = (ordE (l.getD i enZ) e == 0) := by
  rw [ordE_zero, hitE, hp]
  have := h2 i (Nat.le_refl _) hi
  rw [Bool.eq_iff_iff, decide_eq_true_iff, decide_eq_true_iff]
  exact ⟨fun h => ⟨this, h.2⟩, fun h => ⟨hi, h.2⟩⟩
theorem hitE_end {l : List En} {e : En} (hp : plE l e = l.length) : hitE l e = false := decide_eq_false fun h => by omega
set_option maxHeartbeats 3200000 in
theorem bsearch_any (ad : Option Addr) (c : Nat) (l : List En) (e : En) (w : World) (h : Row enV 3 w (.slice ad l.length c) l) (hl : l.length ≤ 1000) (hs : SortedE l) :
    Calls Tryd.prog 25 #[.slice ad l.length c, enA e, .func (.func 26) #[] #[]] w fun r w' => r = .returned (.tuple #[.int .i64 (plE l e : Int), .bool (hitE l e)]) ∧ Below w.heap.size w w' := by
  have hlow0 := hidden (fun W (hb : Below (w.alloc (enO e)).heap.size (w.alloc (enO e)) W) => (below_en w e).trans (hb.mono (below_en w e).size))
  have hx := hidden (fun k hk W (hb : Below (w.alloc (enO e)).heap.size (w.alloc (enO e)) W) => rowE_at (h.below enV_len (hlow0.out W hb) (Nat.le_refl _)) k hk)
  have ht := hidden (fun W hb => @en_new w W e hb)
  have hlI : (l.length : Int) ≤ 1000 := by omega
  have hord := hidden (fun x W => order_any x e W)
  replace hs := hidden hs
  clear h
  obtain ⟨ed, ec, eo⟩ := e
  go_enter Tryd.func25, Tryd.ntmps25
  go_wp2_with fail
  generalize hw1 : w.alloc (enO ⟨ed, ec, eo⟩) = w1 at *
  clear hw1
  go_loopw [9, 10] (fun v9 v10 wr => BsRel l ⟨ed, ec, eo⟩ w1 v9 v10 wr) (fun v9 v10 _ => ((RowKit.intOf v10) - (RowKit.intOf v9)).toNat)
  case atStart => exact ⟨0, l.length, rfl, rfl, Nat.zero_le _, Nat.le_refl _, fun p hp => absurd hp (Nat.not_lt_zero _), fun p h1 h2 => by omega, Below.refl _ _⟩
  case round =>
    obtain ⟨i, j, rfl, rfl, hij, hj, hlo, hhi, hb⟩ := hrel
    replace hlo := hidden hlo
    replace hhi := hidden hhi
    by_cases hlt : i < j
    · obtain ⟨k, hk⟩ : ∃ k : Nat, k = (i + j) / 2 := ⟨_, rfl⟩
      have hki : i ≤ k ∧ k < j := by omega
      have hkl : k < l.length := by omega
      have hmid : ((i : Int) + (j : Int)) / 2 = (k : Int) := by omega
      obtain ⟨b, o, rfl, q⟩ := hx.out k hkl wr hb
      have hs0 := hidden (show TriSelf w1 b (o + k * 3) (l.getD k enZ) w.heap.size ed ec eo wr from ⟨q, ht.out _ hb, hb⟩)
      have hlo2 := hidden (fun h => @lowE_next l ⟨ed, ec, eo⟩ hs.out k hkl h)
      have hhi2 := hidden (fun h => @highE_next l ⟨ed, ec, eo⟩ hs.out k h)
      have hneg := hidden (ordE_neg (l.getD k enZ) ⟨ed, ec, eo⟩)
      have hord1 := hidden (hord.out (l.getD k enZ))
      have hij2 : (i : Int) < (j : Int) := by omega
      have hk1 : (k : Int) ≤ 1000 := by omega
      have hj1 : (j : Int) ≤ 1000 := by omega
      clear q hb hk hx ht hord hlow0
      generalize hg : l.getD k enZ = x at *
      generalize hq : ordE x ⟨ed, ec, eo⟩ = q at *
      replace hg := hidden hg
      clear hq
      go_wp2_with fail
      go_region_held3 (fun W => (W.cell? ⟨b, o + k * 3, none⟩ = some (.int .i64 x.d) ∧ W.cell? ⟨b, o + k * 3 + 1, none⟩ = some (.int .i64 x.c) ∧ W.cell? ⟨b, o + k * 3 + 2, none⟩ = some (.bool x.o)) ∧ (W.cell? ⟨w.heap.size, 0, none⟩ = some (.int .i64 ed) ∧ W.cell? ⟨w.heap.size, 1, none⟩ = some (.int .i64 ec) ∧ W.cell? ⟨w.heap.size, 2, none⟩ = some (.bool eo)) ∧ Below w1.heap.size w1 W)
        ((first | exact triSelf_drew hs0.out | assumption | exact triSelf_next (by assumption) (by assumption)))
        ((go_at_call 26; with_reducible refine (hord1.out _).mono ?_; rintro r w' ⟨rfl, hb⟩))
      rename_i hh
      have hend := hidden (triSelf_low hh)
      clear hh hs0 hord1
      by_cases ha : aheadE x ⟨ed, ec, eo⟩
      · have hn : q < 0 := of_decide_eq_true (by rw [hneg.out]; exact decide_eq_true ha)
        replace hlo := hidden (hlo2.out ha)
        clear hneg ha hlo2 hhi2
        go_wp2
        go_roundw
        case rel => exact ⟨k + 1, j, by go_num, rfl, by omega, hj, hlo.out, hhi.out, hend.out⟩
        case measure => simp [RowKit.intOf]; omega
      · have hn : 0 ≤ q := Int.not_lt.1 (of_decide_eq_false (by rw [hneg.out]; exact decide_eq_false ha))
        replace hhi := hidden (hhi2.out ha)
        clear hneg ha hlo2 hhi2
        go_wp2
        go_roundw
        case rel => exact ⟨i, k, rfl, rfl, hki.1, by omega, hlo.out, hhi.out, hend.out⟩
        case measure => simp [RowKit.intOf]; omega
    · obtain rfl : i = j := by omega
      have hpl := hidden (placeE_of hj hlo.out hhi.out)
      have hi1 : (i : Int) ≤ 1000 := by omega
      by_cases hil : i < l.length
      · obtain ⟨b, o, rfl, q⟩ := hx.out i hil wr hb
        have hs0 := hidden (show TriSelf w1 b (o + i * 3) (l.getD i enZ) w.heap.size ed ec eo wr from ⟨q, ht.out _ hb, hb⟩)
        have hh1 := hidden (hitE_yes hpl.out hil hhi.out)
        have hord1 := hidden (hord.out (l.getD i enZ))
        have hilI : (i : Int) < (l.length : Int) := by omega
        clear q hb hx ht hord
        generalize hg : l.getD i enZ = x at *
        generalize hq : ordE x ⟨ed, ec, eo⟩ = q at *
        clear hg hq
        go_wp2_with fail
        go_region_held3 (fun W => (W.cell? ⟨b, o + i * 3, none⟩ = some (.int .i64 x.d) ∧ W.cell? ⟨b, o + i * 3 + 1, none⟩ = some (.int .i64 x.c) ∧ W.cell? ⟨b, o + i * 3 + 2, none⟩ = some (.bool x.o)) ∧ (W.cell? ⟨w.heap.size, 0, none⟩ = some (.int .i64 ed) ∧ W.cell? ⟨w.heap.size, 1, none⟩ = some (.int .i64 ec) ∧ W.cell? ⟨w.heap.size, 2, none⟩ = some (.bool eo)) ∧ Below w1.heap.size w1 W)
          ((first | exact triSelf_drew hs0.out | assumption | exact triSelf_next (by assumption) (by assumption)))
          ((go_at_call 26; with_reducible refine (hord1.out _).mono ?_; rintro r w' ⟨rfl, hb⟩))
        rename_i hh
        have hend := hidden (hlow0.out _ (triSelf_low hh))
        clear hh hs0 hord1
        go_wp2
        go_ret2
        exact ⟨ret_ib (by rw [hpl.out]) hh1.out.symm, hend.out⟩
      · obtain rfl : i = l.length := by omega
        have hh1 := hidden (hitE_end hpl.out)
        replace hb := hidden (hlow0.out _ hb)
        clear hx ht hord hlow0
        go_wp2_with fail
        go_quiet (fail)
        go_wp2
        go_ret2
        exact ⟨ret_ib (by rw [hpl.out]) hh1.out.symm, below_drewN hb.out⟩
end Go.Proofs.YtfoiclgipnlfnaaDoor
