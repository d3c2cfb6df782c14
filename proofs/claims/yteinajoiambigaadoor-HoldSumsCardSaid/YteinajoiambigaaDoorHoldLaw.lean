/-
  Holdings of the statement's own, one line a call; the chapter's example.
-/
import Derived.Test.YteinajoiambigaaDoorHold2
import Derived.Test.YteinajoiambigaaDoorHold4
import Derived.Test.YteinajoiambigaaDoorNumber
namespace Go.Proofs.YteinajoiambigaaDoor
open Go.RowKit Go.Maps
set_option linter.unusedVariables false

section
variable {A : Nat → Addr} {w0 W : World} {g n : Nat} {T : HTab}
/-- a struct that lies in a block of cells of its own stays, whatever the holdings' calls turn. -/
def KeepsRows (g : Nat) (W w' : World) : Prop := ∀ k cs t r, k ≠ g → W.heap[k]? = some (.cells cs t r) → w'.heap[k]? = some (.cells cs t r)
theorem keepsRows_of {n' : Nat} {B : Nat} (h : HoAt W B g n T) {w' : World} (ht : Trd (hoB W g) W w') : KeepsRows g W w' := fun k cs t r hk hr => by
  rw [ht.block k (Array.getElem?_eq_some_iff.1 hr).1 (fun q => by
    rcases (h.blocks q).2.2 with e | ⟨es, c, e⟩
    · exact hk e
    · rw [hr] at e; cases e)]
  exact hr
theorem lput14 (hb : Below w0.heap.size w0 W) (hL : HoAt W w0.heap.size g n T) (hn : n < 1000000) (hE : ErrsOn [2, 3, 12] w0 A) (s : SpotT) (x : Int) :
    Calls Tryd.prog 8 #[.pointer (some ⟨g, 0, none⟩), sptV s, .int .i64 x] W fun r w' => r = .returned (errOf A (putHC T s x)) ∧ HoAt w' w0.heap.size g (n + 1) (putHT T s x) ∧ Below w0.heap.size w0 w' ∧ KeepsRows g W w' :=
  (hoPut_any A W w0.heap.size g n T hL hb.size hn s x ((hE.sub (by decide)).below hb (Nat.le_refl _))).mono fun r w' h => ⟨h.1, h.2.1, hb.trans (hL.keeps h.2.2 hb.size), keepsRows_of (n' := 0) hL h.2.2⟩
theorem ltake14 (hb : Below w0.heap.size w0 W) (hL : HoAt W w0.heap.size g n T) (hn : n < 1000000) (hE : ErrsOn [2, 3, 12] w0 A) (s : SpotT) (x : Int) :
    Calls Tryd.prog 7 #[.pointer (some ⟨g, 0, none⟩), sptV s, .int .i64 x] W fun r w' => r = .returned (errOf A (takHC T s x)) ∧ HoAt w' w0.heap.size g (n + 1) (takHT T s x) ∧ Below w0.heap.size w0 w' ∧ KeepsRows g W w' :=
  (hoTake_any A W w0.heap.size g n T hL hb.size hn s x ((hE.sub (by decide)).below hb (Nat.le_refl _))).mono fun r w' h => ⟨h.1, h.2.1, hb.trans (hL.keeps h.2.2 hb.size), keepsRows_of (n' := 0) hL h.2.2⟩
theorem lget14 (hb : Below w0.heap.size w0 W) (hL : HoAt W w0.heap.size g n T) (s : SpotT) (hs : spIn s) :
    Calls Tryd.prog 10 #[.pointer (some ⟨g, 0, none⟩), sptV s] W fun r w' => r = .returned (.int .i64 (getQ T s)) ∧ HoAt w' w0.heap.size g n T ∧ Below w0.heap.size w0 w' ∧ Below W.heap.size W w' :=
  (hoGet_any W w0.heap.size g n T hL s hs).mono fun r w' h => ⟨h.1, hL.below h.2 (Nat.le_refl _), hb.trans (h.2.mono hb.size), h.2⟩
theorem lsum14 (hb : Below w0.heap.size w0 W) (hL : HoAt W w0.heap.size g n T) (a : Int) (h1 : -9223372036854775808 ≤ a) (h2 : a ≤ 9223372036854775807) :
    Calls Tryd.prog 9 #[.pointer (some ⟨g, 0, none⟩), .int .i64 a] W fun r w' => r = .returned (.int .i64 (sumH T a)) ∧ HoAt w' w0.heap.size g n T ∧ Below w0.heap.size w0 w' ∧ Below W.heap.size W w' :=
  (hoSum_any W w0.heap.size g n T hL a h1 h2).mono fun r w' h => ⟨h.1, hL.below h.2 (Nat.le_refl _), hb.trans (h.2.mono hb.size), h.2⟩
theorem lall14 (hb : Below w0.heap.size w0 W) (hL : HoAt W w0.heap.size g n T) :
    Calls Tryd.prog 11 #[.pointer (some ⟨g, 0, none⟩)] W fun r w' => (∃ v, r = .returned v ∧ OwnHol W.heap.size w' v (allH T)) ∧ HoAt w' w0.heap.size g n T ∧ Below w0.heap.size w0 w' ∧ Below W.heap.size W w' :=
  (hoAll_any W w0.heap.size g n T hL).mono fun r w' ⟨v, h1, h2, h3⟩ => ⟨⟨v, h1, h2⟩, hL.below h3 (Nat.le_refl _), hb.trans (h3.mono hb.size), h3⟩
/-- how many all are. -/
theorem llen14 (hb : Below w0.heap.size w0 W) (hL : HoAt W w0.heap.size g n T) :
    Calls Tryd.prog 11 #[.pointer (some ⟨g, 0, none⟩)] W fun r w' => (∃ a c, r = .returned (.slice a (allH T).length c)) ∧ HoAt w' w0.heap.size g n T ∧ Below w0.heap.size w0 w' ∧ Below W.heap.size W w' :=
  (lall14 hb hL).mono fun r w' ⟨⟨v, h1, h2⟩, h3, h4, h5⟩ => by
    obtain ⟨a, c, e⟩ := row_slice (h2.row holV_len)
    exact ⟨⟨a, c, by rw [h1, e]⟩, h3, h4, h5⟩
theorem lof14 (hb : Below w0.heap.size w0 W) (hL : HoAt W w0.heap.size g n T) (m : Int) (h1 : -9223372036854775808 ≤ m) (h2 : m ≤ 9223372036854775807) :
    Calls Tryd.prog 13 #[.pointer (some ⟨g, 0, none⟩), .int .i64 m] W fun r w' => (∃ a c, r = .returned (.slice a (ofH T m).length c)) ∧ HoAt w' w0.heap.size g n T ∧ Below w0.heap.size w0 w' ∧ Below W.heap.size W w' :=
  (hoOf_any W w0.heap.size g n T hL m h1 h2).mono fun r w' ⟨v, e1, e2, h3⟩ => by
    obtain ⟨a, c, e⟩ := row_slice (e2.row holV_len)
    exact ⟨⟨a, c, by rw [e1, e]⟩, hL.below h3 (Nat.le_refl _), hb.trans (h3.mono hb.size), h3⟩
/-- new holdings, behind what was there. -/
theorem lnew14 (hb : Below w0.heap.size w0 W) : HoAt (W.alloc (.cells #[.map none] 27)) w0.heap.size W.heap.size 0 noH ∧ Below w0.heap.size w0 (W.alloc (.cells #[.map none] 27)) :=
  ⟨(hoAt_new W).base hb.size, hb.alloc hb.size _⟩
end
set_option maxHeartbeats 1600000 in
theorem law14_first (A : Nat → Addr) (w : World) (hS : Sents w A) : Calls Tryd.prog 5 #[] w fun e w' => e = .returned (.bool true) ∧ Below w.heap.size w w' := by
  have hn := hidden (lnew14 (Below.refl w.heap.size w))
  have hE' := hidden (hS.on [2, 3, 12] (by decide))
  have hI := hidden (fun W (h : Below w.heap.size w W) => is_any A 113 113 W (hS.below h (Nat.le_refl _)) (.inr (by decide)))
  clear hS
  go_enter Tryd.func5, Tryd.ntmps5
  go_wp2_with fail
  obtain ⟨hL, hb⟩ := hn.out
  refine (ltake14 hb hL (by decide) hE'.out (1, 1) 1).mono ?_
  rintro r w1 ⟨rfl, hL1, hb1, _⟩
  have e1 : takHC noH (1, 1) 1 = 113 := by decide
  have e2 : takHT noH (1, 1) 1 = noH := take_not (by decide)
  clear hn hL hb
  rw [e1]
  rw [e2] at hL1
  replace hL1 := hidden hL1
  replace hb1 := hidden hb1
  clear e1 e2
  go_wp2_with fail
  refine (hI.out _ hb1.out).mono ?_
  rintro r w2 ⟨rfl, hb2⟩
  have hL2 := hidden (hL1.out.below hb2 (Nat.le_refl _))
  have hb2' := hidden (hb1.out.trans (hb2.mono hb1.out.size))
  clear hb2 hL1 hb1
  go_wp2_with fail
  refine (lput14 hb2'.out hL2.out (by decide) hE'.out (1, 1) 3).mono ?_
  rintro r w3 ⟨rfl, hL3, hb3, _⟩
  have e1 : putHC noH (1, 1) 3 = 0 := by decide
  have e2 : sumH (putHT noH (1, 1) 3) 1 = 3 := by decide
  rw [e1, errOf_fine]
  replace hL3 := hidden hL3
  replace hb3 := hidden hb3
  clear hL2 hb2' e1
  go_wp2_with fail
  refine (lsum14 hb3.out hL3.out 1 (by decide) (by decide)).mono ?_
  rintro r w4 ⟨rfl, hL4, hb4, _⟩
  replace hb4 := hidden hb4
  clear hL3 hb3 hL4
  rw [e2]
  go_wp2
  go_ret
  exact ⟨rfl, hb4.out⟩
end Go.Proofs.YteinajoiambigaaDoor
