/-
  Limits of the statement's own, one line a call; the chapter's example.
-/
import Derived.Test.YtghkmagofadkfaaDoorCaps7
import Derived.Test.YtghkmagofadkfaaDoorCaps8
import Derived.Test.YtghkmagofadkfaaDoorCapsMath4
import Derived.Test.YtghkmagofadkfaaDoorNumber
namespace Go.Proofs.YtghkmagofadkfaaDoor
open Go.RowKit Go.Maps
set_option linter.unusedVariables false

section
variable {A : Nat → Addr} {w0 W : World} {g n : Nat} {T : CTab}
/-- a struct that lies in a block of cells of its own stays, whatever the limits' calls turn. -/
def KeepsC (g : Nat) (W w' : World) : Prop := ∀ k cs t r, k ≠ g → W.heap[k]? = some (.cells cs t r) → w'.heap[k]? = some (.cells cs t r)
theorem keepsC_of {B : Nat} (h : CpAt W B g n T) {w' : World} (ht : Trd (cpB W g) W w') : KeepsC g W w' := fun k cs t r hk hr => by
  rw [ht.block k (Array.getElem?_eq_some_iff.1 hr).1 (fun q => by
    rcases (h.blocks q).2.2 with e | ⟨es, c, e⟩
    · exact hk e
    · rw [hr] at e; cases e)]
  exact hr
theorem lset16 (hb : Below w0.heap.size w0 W) (hL : CpAt W w0.heap.size g n T) (hn : n < 1000000) (hE : ErrsOn [2, 3] w0 A) (s : LimT) (x : Int) :
    Calls Tryd.prog 11 #[.pointer (some ⟨g, 0, none⟩), lmV s, .int .i64 x] W fun r w' => r = .returned (errOf A (setCC s x)) ∧ CpAt w' w0.heap.size g (n + 1) (setCT T s x) ∧ Below w0.heap.size w0 w' ∧ KeepsC g W w' :=
  (cpSet_any A W w0.heap.size g n T hL hb.size hn s x ((hE.sub (by decide)).below hb (Nat.le_refl _))).mono fun r w' h => ⟨h.1, h.2.1, hb.trans (hL.keeps h.2.2 hb.size), keepsC_of hL h.2.2⟩
theorem lget16 (hb : Below w0.heap.size w0 W) (hL : CpAt W w0.heap.size g n T) (s : LimT) (hs : lmIn s) :
    Calls Tryd.prog 18 #[.pointer (some ⟨g, 0, none⟩), lmV s] W fun r w' => r = .returned (.int .i64 (getC T s)) ∧ CpAt w' w0.heap.size g n T ∧ Below w0.heap.size w0 w' ∧ Below W.heap.size W w' :=
  (cpGet_any W w0.heap.size g n T hL s hs).mono fun r w' h => ⟨h.1, hL.below h.2 (Nat.le_refl _), hb.trans (h.2.mono hb.size), h.2⟩
/-- lines that may be, of a small sum. -/
theorem lsum16 (hb : Below w0.heap.size w0 W) (hL : CpAt W w0.heap.size g n T) (hE : ErrsOn [2, 3] w0 A) {v : Value} {l : List Ln} (hr : Row lnV 4 W v l) (hl : l.length ≤ 100000) (hok : ∀ x ∈ l, lnOk x) (ht : totL l ≤ 1000000000000000) :
    Calls Tryd.prog 15 #[.pointer (some ⟨g, 0, none⟩), v] W fun r w' => r = .returned (.tuple #[.int .i64 (s4 T l), .nilIface]) ∧ CpAt w' w0.heap.size g n T ∧ Below w0.heap.size w0 w' ∧ Below W.heap.size W w' :=
  (cpSum_any A W w0.heap.size g n T hL v l hr hl (hE.below hb (Nat.le_refl _))).mono fun r w' h => by
    obtain ⟨h1, h2⟩ := h
    obtain ⟨e1, e2⟩ := su_small (T := T) hok ht
    rcases h1 with ⟨k, ga, q, _⟩ | ⟨_, q⟩
    · rw [badL_fine hok] at q; cases q
    · exact ⟨by rw [q, e1, e2]; rfl, hL.below h2 (Nat.le_refl _), hb.trans (h2.mono hb.size), h2⟩
/-- whatever lines. -/
theorem lsumA16 (hb : Below w0.heap.size w0 W) (hL : CpAt W w0.heap.size g n T) (hE : ErrsOn [2, 3] w0 A) {v : Value} {l : List Ln} (hr : Row lnV 4 W v l) (hl : l.length ≤ 100000) :
    Calls Tryd.prog 15 #[.pointer (some ⟨g, 0, none⟩), v] W fun r w' => SumAt A T l W r w' ∧ CpAt w' w0.heap.size g n T ∧ Below w0.heap.size w0 w' ∧ Below W.heap.size W w' :=
  (cpSum_any A W w0.heap.size g n T hL v l hr hl (hE.below hb (Nat.le_refl _))).mono fun r w' h => ⟨h, hL.below h.2 (Nat.le_refl _), hb.trans (h.2.mono hb.size), h.2⟩
theorem lall16 (hb : Below w0.heap.size w0 W) (hL : CpAt W w0.heap.size g n T) :
    Calls Tryd.prog 13 #[.pointer (some ⟨g, 0, none⟩)] W fun r w' => (∃ v, r = .returned v ∧ OwnLm W.heap.size w' v (allC T)) ∧ CpAt w' w0.heap.size g n T ∧ Below w0.heap.size w0 w' ∧ Below W.heap.size W w' :=
  (cpAll_any W w0.heap.size g n T hL).mono fun r w' ⟨v, h1, h2, h3⟩ => ⟨⟨v, h1, h2⟩, hL.below h3 (Nat.le_refl _), hb.trans (h3.mono hb.size), h3⟩
/-- how many all are. -/
theorem llen16 (hb : Below w0.heap.size w0 W) (hL : CpAt W w0.heap.size g n T) :
    Calls Tryd.prog 13 #[.pointer (some ⟨g, 0, none⟩)] W fun r w' => (∃ a c, r = .returned (.slice a (allC T).length c)) ∧ CpAt w' w0.heap.size g n T ∧ Below w0.heap.size w0 w' ∧ Below W.heap.size W w' :=
  (lall16 hb hL).mono fun r w' ⟨⟨v, h1, h2⟩, h3, h4, h5⟩ => by
    obtain ⟨a, c, e⟩ := row_slice (h2.row limV_len)
    exact ⟨⟨a, c, by rw [h1, e]⟩, h3, h4, h5⟩
/-- no limits yet, behind what was there. -/
theorem lnew16 (hb : Below w0.heap.size w0 W) : CpAt (W.alloc (.cells #[.map none] 29)) w0.heap.size W.heap.size 0 noC ∧ Below w0.heap.size w0 (W.alloc (.cells #[.map none] 29)) :=
  ⟨(cpAt_new W).base hb.size, hb.alloc hb.size _⟩
end
/-- lines in a new block. -/
theorem lsumN16 {A : Nat → Addr} {w0 W : World} {g n : Nat} {T : CTab} (hb : Below w0.heap.size w0 W) (hL : CpAt W w0.heap.size g n T) (hE : ErrsOn [2, 3] w0 A) (cs : Array Value) (l : List Ln) (k : Nat) (hk : l.length = k) (hc : cs = (l.flatMap lnV).toArray) (hm : k ≤ 1000) (hok : ∀ x ∈ l, lnOk x) (ht : totL l ≤ 1000000000000000) :
    Calls Tryd.prog 15 #[.pointer (some ⟨g, 0, none⟩), .slice (some ⟨W.heap.size, 0, none⟩) k k] (W.alloc (.cells cs 58)) fun r w' => r = .returned (.tuple #[.int .i64 (s4 T l), .nilIface]) ∧ CpAt w' w0.heap.size g n T ∧ Below w0.heap.size w0 w' ∧ Below W.heap.size W w' := by
  have hB : Below W.heap.size W (W.alloc (.cells cs 58)) := (Below.refl _ W).alloc (Nat.le_refl _) _
  exact (lsum16 (hb.alloc hb.size _) (hL.below hB (Nat.le_refl _)) hE (row_new (w := W) (e := 58) lnV_len cs l k hk hc (by omega)) (by omega) hok ht).mono fun r w' h => ⟨h.1, h.2.1, h.2.2.1, hB.trans (h.2.2.2.mono hB.size)⟩
theorem ln_cells {w : World} {k : Nat} {t : TypeId} {x : Ln} (h : w.heap[k]? = some (lnO t x)) : w.cell? ⟨k, 0, none⟩ = some (.int .i64 x.c) ∧ w.cell? ⟨k, 1, none⟩ = some (.int .i64 x.m) ∧ w.cell? ⟨k, 2, none⟩ = some (.int .i64 x.i) ∧ w.cell? ⟨k, 3, none⟩ = some (.int .i64 x.v) := by
  refine ⟨?_, ?_, ?_, ?_⟩ <;> (rw [cell_of_row _ _ _ _ _ _ h]; rfl)
theorem idsC_none {T : CTab} (h : ∀ s, getC T s = 0) (c : Int) (n : Nat) : idsC T c n = [] := by
  induction n with
  | zero => rfl
  | succ n ih => unfold idsC; rw [ih, if_pos (h _)]; rfl
theorem allC_none {T : CTab} (h : ∀ s, getC T s = 0) : allC T = [] := by
  unfold allC whC whC whC whC
  simp [idsC_none h]
def exT : CTab := setCT noC (3, 4) 7
theorem exT_ca : CaT exT := noC_ca.set _ _
theorem ex_sum : s4 exT [⟨2, 1, 4, 5⟩, ⟨2, 1, 4, 5⟩] = 7 := by
  have e : ∀ c m i, s1 [⟨2, 1, 4, 5⟩, ⟨2, 1, 4, 5⟩] c m i = if 2 = c ∧ 1 = m ∧ 4 = i then 10 else 0 := fun c m i => by
    simp only [s1, hitL]
    by_cases q : 2 = c ∧ 1 = m ∧ 4 = i
    · rw [if_pos q, if_pos q]; rfl
    · rw [if_neg q, if_neg q]; rfl
  rw [s4_class exT_ca (d := 2) (by omega) (fun c m i q => by rw [e, if_neg (fun z => q z.1.symm)]), s3_money exT_ca (d := 1) (by omega) (fun m i q => by rw [e, if_neg (fun z => q z.2.1.symm)]),
    s2_issuer exT_ca (d := 4) (by omega) (fun i q => by rw [e, if_neg (fun z => q z.2.2.symm)]), e, if_pos ⟨rfl, rfl, rfl⟩]
  decide
set_option maxRecDepth 100000 in
set_option maxHeartbeats 3200000 in
theorem law16_first (A : Nat → Addr) (w : World) (hE : ErrsOn [2, 3] w A) : Calls Tryd.prog 9 #[] w fun e w' => e = .returned (.bool true) ∧ Below w.heap.size w w' := by
  have hn := hidden (lnew16 (Below.refl w.heap.size w))
  replace hE := hidden hE
  go_enter Tryd.func9, Tryd.ntmps9
  go_wp2_with fail
  obtain ⟨hL, hb⟩ := hn.out
  (with_reducible refine (lset16 hb hL (by decide) hE.out (3, 4) 7).mono ?_)
  rintro r w1 ⟨rfl, hL1, hb1, _⟩
  have e1 : setCC (3, 4) 7 = 0 := by decide
  clear hn hL hb
  rw [e1, errOf_fine]
  have hW : Below w1.heap.size w1 (w1.alloc (lnO 58 ⟨2, 1, 4, 5⟩)) := (Below.refl _ w1).alloc (Nat.le_refl _) _
  have hr := hidden (row_new (w := w1.alloc (lnO 58 ⟨2, 1, 4, 5⟩)) (e := 58) lnV_len #[.int .i64 2, .int .i64 1, .int .i64 4, .int .i64 5, .int .i64 2, .int .i64 1, .int .i64 4, .int .i64 5] [⟨2, 1, 4, 5⟩, ⟨2, 1, 4, 5⟩] 2 rfl rfl (by decide))
  have hW2 := (hb1.alloc hb1.size (lnO 58 ⟨2, 1, 4, 5⟩))
  have hb3 := hidden (hW2.alloc hW2.size (.cells #[.int .i64 2, .int .i64 1, .int .i64 4, .int .i64 5, .int .i64 2, .int .i64 1, .int .i64 4, .int .i64 5] 58))
  have hL3 := hidden ((hL1.below hW (Nat.le_refl _)).below ((Below.refl _ _).alloc (Nat.le_refl _) (.cells #[.int .i64 2, .int .i64 1, .int .i64 4, .int .i64 5, .int .i64 2, .int .i64 1, .int .i64 4, .int .i64 5] 58)) (Nat.le_refl _))
  have hS := lsum16 hb3.out hL3.out hE.out hr.out (by decide) (by decide) (by decide)
  rw [show setCT noC (3, 4) 7 = exT from rfl, ex_sum, show (w1.alloc (lnO 58 ⟨2, 1, 4, 5⟩)).heap.size = w1.heap.size + 1 by simp] at hS
  replace hS := hidden hS
  clear hL1 hb1 hW hr hW2 hb3 hL3 hE
  go_wp2_with fail
  (with_reducible refine hS.out.mono ?_)
  rintro r w4 ⟨rfl, _, hb4, _⟩
  replace hb4 := hidden hb4
  clear hS
  go_wp2
  go_ret
  exact ⟨rfl, hb4.out⟩
end Go.Proofs.YtghkmagofadkfaaDoor
