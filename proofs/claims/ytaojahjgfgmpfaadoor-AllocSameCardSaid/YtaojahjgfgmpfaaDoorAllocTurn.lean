/-
  The lots in another order, and one more that is worth nothing.
-/
import Derived.Test.YtaojahjgfgmpfaaDoorAllocKnow
namespace Go.Proofs.YtaojahjgfgmpfaaDoor
open Go Go.RowKit
set_option linter.unusedVariables false

theorem sumF_front (f : Nat → Int) : ∀ k, sumF f (k + 1) = f 0 + sumF (fun i => f (i + 1)) k
  | 0 => by simp [sumF]
  | k + 1 => by
    rw [sumF, sumF_front f k, sumF]
    omega
def pzS (h : Lt → Int → Int) : List Lt → List Int → Int
  | [], _ => 0
  | _, [] => 0
  | x :: L, t :: T => h x t + pzS h L T
theorem sumF_pz (h : Lt → Int → Int) : ∀ (L : List Lt) (T : List Int), T.length = L.length → sumF (fun i => h (L.getD i ltZ) (T.getD i 0)) L.length = pzS h L T
  | [], _, _ => by simp [sumF, pzS]
  | x :: L, [], e => by simp at e
  | x :: L, t :: T, e => by
    rw [List.length_cons, sumF_front]
    have := sumF_pz h L T (by simpa using e)
    simp only [List.getD_cons_zero, List.getD_cons_succ] at this ⊢
    rw [this, pzS]
theorem pz_app (h : Lt → Int → Int) : ∀ (P : List Lt) (B : List Int) (Q : List Lt) (A : List Int), B.length = P.length → pzS h (P ++ Q) (B ++ A) = pzS h P B + pzS h Q A
  | [], [], Q, A, _ => by simp [pzS]
  | [], b :: B, Q, A, e => by simp at e
  | x :: P, [], Q, A, e => by simp at e
  | x :: P, b :: B, Q, A, e => by
    have := pz_app h P B Q A (by simpa using e)
    simp only [List.cons_append, pzS, this]
    omega
def azP (h : Lt → Int → Prop) : List Lt → List Int → Prop
  | [], [] => True
  | x :: L, t :: T => h x t ∧ azP h L T
  | _, _ => False
theorem tk_az : ∀ (L : List Lt) (T : List Int), TkOk L T ↔ azP (fun x t => 0 ≤ t ∧ t ≤ x.u) L T
  | [], [] => by simp [TkOk, azP]
  | [], t :: T => by simp [TkOk, azP]
  | x :: L, [] => by simp [TkOk, azP]
  | x :: L, t :: T => by
    have ih := tk_az L T
    unfold azP
    rw [← ih]
    constructor
    · rintro ⟨h1, h2⟩
      refine ⟨h2 0 (by simp), by simpa using h1, fun i hi => by simpa using h2 (i + 1) (by simpa using hi)⟩
    · rintro ⟨h1, h2, h3⟩
      refine ⟨by simpa using h2, fun i hi => ?_⟩
      match i with
      | 0 => simpa using h1
      | i + 1 => simpa using h3 i (by simpa using hi)
theorem az_app (h : Lt → Int → Prop) : ∀ (P : List Lt) (B : List Int) (Q : List Lt) (A : List Int), B.length = P.length → (azP h (P ++ Q) (B ++ A) ↔ azP h P B ∧ azP h Q A)
  | [], [], Q, A, _ => by simp [azP]
  | [], b :: B, Q, A, e => by simp at e
  | x :: P, [], Q, A, e => by simp at e
  | x :: P, b :: B, Q, A, e => by
    have := az_app h P B Q A (by simpa using e)
    simp only [List.cons_append, azP, this, and_assoc]
section
variable {P Q : List Lt} {A B : List Int} {x : Lt} {t0 : Int}
theorem gs_pz {L : List Lt} {T : List Int} (h : T.length = L.length) (g : Int) : gs L T g L.length = pzS (fun y t => if y.g = g then t * y.v else 0) L T := by
  rw [← sumF_pz _ L T h]
  rfl
theorem co_pz {L : List Lt} {T : List Int} (h : T.length = L.length) : co L T = pzS (fun y t => t * y.c) L T := by
  rw [← sumF_pz _ L T h]
  rfl
theorem turn_pz (h : Lt → Int → Int) (hB : B.length = P.length) (hA : A.length = Q.length) : pzS h (Q ++ P ++ [x]) (A ++ B ++ [t0]) = pzS h (P ++ Q) (B ++ A) + h x t0 := by
  rw [pz_app h (Q ++ P) (A ++ B) [x] [t0] (by simp; omega), pz_app h Q A P B hA, pz_app h P B Q A hB]
  simp only [pzS]
  omega
theorem turn_wo (hB : B.length = P.length) (hA : A.length = Q.length) (hv : x.v = 0) (C : List Int) : wo (Q ++ P ++ [x]) C (A ++ B ++ [t0]) = wo (P ++ Q) C (B ++ A) := by
  unfold wo
  apply sumF_same
  intro j hj
  unfold woF
  rw [gs_pz (by simp; omega), gs_pz (by simp; omega), turn_pz _ hB hA, hv]
  simp
theorem turn_co (hB : B.length = P.length) (hA : A.length = Q.length) : co (Q ++ P ++ [x]) (A ++ B ++ [t0]) = co (P ++ Q) (B ++ A) + t0 * x.c := by
  rw [co_pz (by simp; omega), co_pz (by simp; omega), turn_pz _ hB hA]
theorem turn_tk (hB : B.length = P.length) (hA : A.length = Q.length) : TkOk (Q ++ P ++ [x]) (A ++ B ++ [t0]) ↔ TkOk (P ++ Q) (B ++ A) ∧ 0 ≤ t0 ∧ t0 ≤ x.u := by
  rw [tk_az, tk_az, az_app _ (Q ++ P) (A ++ B) [x] [t0] (by simp; omega), az_app _ Q A P B hA, az_app _ P B Q A hB]
  simp only [azP, and_true]
  constructor
  · rintro ⟨⟨a, b⟩, c⟩; exact ⟨⟨b, a⟩, c⟩
  · rintro ⟨⟨b, a⟩, c⟩; exact ⟨⟨a, b⟩, c⟩
theorem turn_ok {C : List Int} {n : Int} (h : OkP (P ++ Q) C n) (hl : (P ++ Q).length ≤ 6) (hx : ltOk C.length x) : OkP (Q ++ P ++ [x]) C n := by
  obtain ⟨⟨⟨h1, h2⟩, h3⟩, h4, h5, h6⟩ := h
  refine ⟨⟨⟨by simp only [List.length_append, List.length_cons, List.length_nil]; omega, by simp only [List.length_append, List.length_cons, List.length_nil] at hl ⊢; omega⟩, h3⟩, fun y hy => ?_, h5, h6⟩
  simp only [List.mem_append, List.mem_cons, List.not_mem_nil, or_false] at hy
  rcases hy with (hy | hy) | rfl
  · exact h4 y (by simp [hy])
  · exact h4 y (by simp [hy])
  · exact hx
theorem split_two {T : List Int} {p q : Nat} (h : T.length = p + q) : ∃ B A, T = B ++ A ∧ B.length = p ∧ A.length = q := ⟨T.take p, T.drop p, (List.take_append_drop p T).symm, by simp; omega, by simp; omega⟩
theorem split_three {T : List Int} {p q : Nat} (h : T.length = q + p + 1) : ∃ A B t, T = A ++ B ++ [t] ∧ A.length = q ∧ B.length = p := by
  obtain ⟨X, Y, e, h1, h2⟩ := split_two (T := T) (p := q + p) (q := 1) (by omega)
  obtain ⟨A, B, e2, h3, h4⟩ := split_two (T := X) (p := q) (q := p) h1
  obtain ⟨t, rfl⟩ := List.length_eq_one_iff.1 h2
  exact ⟨A, B, t, by rw [e, e2], h3, h4⟩
theorem turn_full {C : List Int} (hv : x.v = 0) : wo (Q ++ P ++ [x]) C (full (Q ++ P ++ [x])) = wo (P ++ Q) C (full (P ++ Q)) := by
  have e1 : full (Q ++ P ++ [x]) = full Q ++ full P ++ [x.u] := by simp [full]
  have e2 : full (P ++ Q) = full P ++ full Q := by simp [full]
  rw [e1, e2]
  exact turn_wo (full_len P) (full_len Q) hv C
theorem turn_code {C : List Int} {n bud : Int} (h : OkP (P ++ Q) C n) (hl : (P ++ Q).length ≤ 6) (hx : ltOk C.length x) (hv : x.v = 0) (h0 : 0 ≤ bud) (h1 : bud ≤ 100000) : beC (Q ++ P ++ [x]) C n bud = beC (P ++ Q) C n bud := by
  rw [be_code h h0 h1, be_code (turn_ok h hl hx) h0 h1, turn_full hv]
theorem turn_cost {C : List Int} {n bud : Int} (h : OkP (P ++ Q) C n) (hl : (P ++ Q).length ≤ 6) (hx : ltOk C.length x) (hv : x.v = 0) (h0 : 0 ≤ bud) (h1 : bud ≤ 100000) (hc : beC (P ++ Q) C n bud = 0) :
    (beR (P ++ Q) C n bud).2 = true → (beR (Q ++ P ++ [x]) C n bud).2 = true → (beR (P ++ Q) C n bud).1.cost = (beR (Q ++ P ++ [x]) C n bud).1.cost := by
  have f1 := (be_found hc).1
  have f2 := (be_found (show beC (Q ++ P ++ [x]) C n bud = 0 by rw [turn_code h hl hx hv h0 h1, hc])).1
  intro s1 s2
  obtain ⟨B, A, e1, hB, hA⟩ := split_two (T := (beR (P ++ Q) C n bud).1.best) (p := P.length) (q := Q.length) (by rw [f1.tk.1]; simp)
  obtain ⟨A', B', t, e2, hA', hB'⟩ := split_three (T := (beR (Q ++ P ++ [x]) C n bud).1.best) (p := P.length) (q := Q.length) (by rw [f2.tk.1]; simp only [List.length_append, List.length_cons, List.length_nil])
  have t1 := f1.tk
  have t2 := f2.tk
  have w1 := f1.fits
  have w2 := f2.fits
  have c1 := f1.cost
  have c2 := f2.cost
  rw [e1] at t1 w1 c1
  rw [e2] at t2 w2 c2
  have hxu : 0 ≤ x.u := hx.1.1
  have hxc : 0 ≤ x.c := hx.2.2.1.1
  apply Int.le_antisymm
  · have q := (turn_tk (x := x) hB' hA').1 t2
    have := f1.sure s1 (B' ++ A') q.1 (by rw [← turn_wo (x := x) (t0 := t) hB' hA' hv]; exact w2)
    have e := turn_co (x := x) (t0 := t) hB' hA'
    have := Int.mul_nonneg q.2.1 hxc
    omega
  · have q := (turn_tk (x := x) (t0 := 0) hB hA).2 ⟨t1, Int.le_refl _, hxu⟩
    have := f2.sure s2 (A ++ B ++ [0]) q (by rw [turn_wo hB hA hv]; exact w1)
    have e := turn_co (x := x) (t0 := 0) hB hA
    rw [Int.zero_mul] at e
    omega
end
end Go.Proofs.YtaojahjgfgmpfaaDoor
