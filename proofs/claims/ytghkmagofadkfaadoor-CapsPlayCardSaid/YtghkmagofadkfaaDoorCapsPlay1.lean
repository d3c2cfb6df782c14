/-
  The limits in their order, number by number; two objects told side by side; the lines as the document has them.
-/
import Derived.Test.YtghkmagofadkfaaDoorCapsDo
import Derived.Test.YtghkmagofadkfaaDoorCapsLaw2
import Derived.Test.YtghkmagofadkfaaDoorCapsRef2
import Derived.Test.YtghkmagofadkfaaDoorStep
namespace Go.Proofs.YtghkmagofadkfaaDoor
open Go.RowKit Go.Maps
set_option linter.unusedVariables false

def w32C (T : CTab) : Nat → List LimT
  | 0 => []
  | k + 1 => w32C T k ++ idsC T ((k : Int) + 1) 32
theorem idsC_part (T : CTab) (c : Int) (m d : Nat) : ∃ R, idsC T c (m + d) = idsC T c m ++ R := by
  induction d with
  | zero => exact ⟨[], by rw [List.append_nil]; rfl⟩
  | succ d ih =>
    obtain ⟨R, h⟩ := ih
    refine ⟨R ++ (if getC T (c, ((m + d : Nat) : Int) + 1) = 0 then [] else [(c, ((m + d : Nat) : Int) + 1)]), ?_⟩
    rw [← List.append_assoc, ← h]
    rfl
theorem idsC_more {T : CTab} (hC : CaT T) (c : Int) (m d : Nat) (h : lmTop c = (m : Int)) : idsC T c (m + d) = idsC T c m := by
  induction d with
  | zero => rfl
  | succ d ih =>
    have e : idsC T c (m + (d + 1)) = idsC T c (m + d) ++ (if getC T (c, ((m + d : Nat) : Int) + 1) = 0 then [] else [(c, ((m + d : Nat) : Int) + 1)]) := rfl
    rw [e, ih, if_pos (hC.out (fun q => by have := q.2; simp only at this; rw [h] at this; omega)), List.append_nil]
theorem w32_all {T : CTab} (hC : CaT T) : w32C T 3 = allC T := by
  unfold allC w32C w32C w32C w32C whC whC whC whC
  have h1 : idsC T 1 32 = idsC T 1 6 := idsC_more hC 1 6 26 rfl
  have h2 : idsC T 2 32 = idsC T 2 6 := idsC_more hC 2 6 26 rfl
  show ([] ++ idsC T 1 32) ++ idsC T 2 32 ++ idsC T 3 32 = ([] ++ idsC T 1 6) ++ idsC T 2 6 ++ idsC T 3 32
  rw [h1, h2]
theorem w32_part (T : CTab) (k d : Nat) : ∃ R, w32C T (k + d) = w32C T k ++ R := by
  induction d with
  | zero => exact ⟨[], by rw [List.append_nil]; rfl⟩
  | succ d ih =>
    obtain ⟨R, h⟩ := ih
    exact ⟨R ++ idsC T (((k + d : Nat) : Int) + 1) 32, by rw [← List.append_assoc, ← h]; rfl⟩
theorem all_split {T : CTab} (hC : CaT T) {k j : Nat} (hk : k < 3) (hj : j < 32) (hx : getC T ((k : Int) + 1, (j : Int) + 1) ≠ 0) : ∃ R, allC T = (w32C T k ++ idsC T ((k : Int) + 1) j) ++ ((k : Int) + 1, (j : Int) + 1) :: R := by
  obtain ⟨R1, h1⟩ := w32_part T (k + 1) (3 - (k + 1))
  obtain ⟨R2, h2⟩ := idsC_part T ((k : Int) + 1) (j + 1) (32 - (j + 1))
  rw [show k + 1 + (3 - (k + 1)) = 3 by omega, w32_all hC] at h1
  rw [show j + 1 + (32 - (j + 1)) = 32 by omega] at h2
  have e : idsC T ((k : Int) + 1) (j + 1) = idsC T ((k : Int) + 1) j ++ [((k : Int) + 1, (j : Int) + 1)] := by
    rw [idsC, if_neg hx]
  have e2 : w32C T (k + 1) = w32C T k ++ idsC T ((k : Int) + 1) 32 := rfl
  refine ⟨R2 ++ R1, ?_⟩
  rw [h1, e2, h2, e]
  simp
theorem all_at {T : CTab} (hC : CaT T) {k j : Nat} (hk : k < 3) (hj : j < 32) (hx : getC T ((k : Int) + 1, (j : Int) + 1) ≠ 0) :
    (w32C T k ++ idsC T ((k : Int) + 1) j).length < (allC T).length ∧ (allC T).getD (w32C T k ++ idsC T ((k : Int) + 1) j).length (0, 0) = ((k : Int) + 1, (j : Int) + 1) := by
  obtain ⟨R, h⟩ := all_split hC hk hj hx
  rw [h]
  refine ⟨by rw [List.length_append]; simp, ?_⟩
  rw [List.getD_eq_getElem?_getD, List.getElem?_append_right (Nat.le_refl _), Nat.sub_self]
  rfl
theorem allC_le (T : CTab) : (allC T).length ≤ 96 := whC_le T 3
theorem rowM_at {w : World} {a : Option Addr} {n c : Nat} {l : List LimT} (h : Row limV 2 w (.slice a n c) l) (k : Nat) (hk : k < n) : ∃ b o, a = some ⟨b, o, none⟩ ∧ w.cell? ⟨b, o + k * 2, none⟩ = some (.int .i64 (l.getD k (0, 0)).1) ∧ w.cell? ⟨b, o + k * 2 + 1, none⟩ = some (.int .i64 (l.getD k (0, 0)).2) := by
  obtain ⟨b, o, rfl, hc⟩ := h.at limV_len (0, 0) k hk (by decide)
  exact ⟨b, o, rfl, hc 0 (by omega), hc 1 (by omega)⟩

/-! Both objects. -/
theorem RcAt.apart {w w' : World} {B g n h : Nat} {T T' : CTab} (hC : RcAt w h T) (hL : CpAt w B g n T') (ht : Trd (cpB w g) w w') : RcAt w' h T :=
  hC.trd ht fun q => by
    rcases (hL.blocks q).2.2 with rfl | ⟨es, c, e⟩
    · obtain ⟨m, hr, _⟩ := hL.ex
      rw [hC.row] at hr
      simp at hr
    · rw [hC.row] at e; cases e
theorem CpAt.apart {w w' : World} {B g n h : Nat} {T T' : CTab} (hL : CpAt w B g n T') (hC : RcAt w h T) (ht : Trd (· = h) w w') : CpAt w' B g n T' :=
  hL.trd ht fun k hk e => by
    subst e
    rcases (hL.blocks hk).2.2 with rfl | ⟨es, c, e⟩
    · obtain ⟨m, hr, _⟩ := hL.ex
      rw [hC.row] at hr
      simp at hr
    · rw [hC.row] at e; cases e

/-! The lines as the document has them. -/
theorem infoRl : (Tryd.prog.info? 82).map (fun i => (i.zero, i.size, i.bytes)) = some (some (.agg #[.int .i64 0, .int .i64 0, .int .i64 0, .int .i64 0]), 4, 32) := by kernel_rfl
abbrev OwnRl (B : Nat) (w : World) (v : Value) (l : List Ln) : Prop := OwnR lnV 4 82 B w v l
def OtRel (l : List Ln) (w0 : World) (v i : Value) (w : World) : Prop := ∃ k : Nat, k ≤ l.length ∧ i = .int .i64 (k : Int) ∧ OwnRl w0.heap.size w v (l.take k) ∧ Below w0.heap.size w0 w
def OtherAt (l : List Ln) (w : World) (e : Ending) (w' : World) : Prop := ∃ v, e = .returned v ∧ OwnRl w.heap.size w' v l ∧ Below w.heap.size w w'
abbrev OtS (w : World) (b o : Nat) (c m i v : Int) (W : World) : Prop :=
  (W.cell? ⟨b, o, none⟩ = some (.int .i64 c) ∧ W.cell? ⟨b, o + 1, none⟩ = some (.int .i64 m) ∧ W.cell? ⟨b, o + 2, none⟩ = some (.int .i64 i) ∧ W.cell? ⟨b, o + 3, none⟩ = some (.int .i64 v)) ∧ Below w.heap.size w W
set_option maxRecDepth 100000 in
set_option maxHeartbeats 6400000 in
theorem other16_any (w : World) (v : Value) (l : List Ln) (hr : Row lnV 4 w v l) (hl : l.length ≤ 1000) : Calls Tryd.prog 17 #[v] w (OtherAt l w) := by
  obtain ⟨a1, c1, rfl⟩ := row_slice hr
  have hx1 := hidden (fun k hk W (h2 : Below w.heap.size w W) => rowL_at (hr.below lnV_len h2 (Nat.le_refl _)) k hk)
  clear hr
  go_enter Tryd.func17, Tryd.ntmps17
  go_wp2_with fail
  go_loopw [3, 4] (fun v i wr => OtRel l w v i wr) (fun _ i _ => l.length - (RowKit.intOf i).toNat)
  case atStart => exact ⟨0, Nat.zero_le _, rfl, OwnR.nil _ _ _, Below.refl _ _⟩
  case round =>
    obtain ⟨k, hk, rfl, hown, hb⟩ := hrel
    by_cases hlt : k < l.length
    · obtain ⟨b, o, rfl, _⟩ := hx1.out k hlt _ hb
      have hq := hidden (fun W (h2 : Below w.heap.size w W) => show FourAt W b (o + k * 4) (l.getD k lnZ) by
        obtain ⟨b', o', e, q⟩ := hx1.out k hlt _ h2
        simp only [Option.some.injEq, Addr.mk.injEq, and_true] at e
        obtain ⟨rfl, rfl⟩ := e
        exact q)
      have hlI : (k : Int) < (l.length : Int) := by omega
      have htk := hidden (take_snocL l k hlt)
      have hlk := hidden (show (l.take k).length ≤ 1000000 by rw [List.length_take]; omega)
      generalize l.getD k lnZ = x at *
      obtain ⟨c, m, i, v⟩ := x
      have hq' := hidden (fun W (h : Below w.heap.size w W) => show OtS w b (o + k * 4) c m i v W from ⟨hq.out W h, h⟩)
      replace hown := hidden hown
      have hs0 := hidden (hq'.out _ hb.drew)
      have hcs := hidden (show Below w.heap.size w wr.drew from hb.drew)
      clear hq hx1 hb
      go_wp2_with fail
      first | (go_region_held3 (fun W => (W.cell? ⟨b, o + k * 4, none⟩ = some (.int .i64 c) ∧ W.cell? ⟨b, o + k * 4 + 1, none⟩ = some (.int .i64 m) ∧ W.cell? ⟨b, o + k * 4 + 2, none⟩ = some (.int .i64 i) ∧ W.cell? ⟨b, o + k * 4 + 3, none⟩ = some (.int .i64 v)) ∧ Below w.heap.size w W)
        ((first | exact hs0.out | assumption | exact hq'.out _ ((hcs.out.alloc hcs.out.size _).trans hb4) | exact hq'.out _ (hcs.out.alloc hcs.out.size _)))
        ((refine step_appR (by rfl) _ _ _ (by rfl) lnV_len lnV_one (by decide) 82 Tryd.underlying50 infoRl (by rfl) (by decide) w.heap.size _ _ (by rfl) ((hown.out.below (Below.refl wr.heap.size wr).drew (Nat.le_refl _)).alloc _) (ys := [⟨c, m, i, v⟩]) (by rfl) (row_new (w := wr.drew) lnV_len _ [⟨c, m, i, v⟩] 1 rfl rfl (by decide)) hlk.out (by simp) ((hcs.out.alloc hcs.out.size _).size) ?_; intro v4 w4 hown4 hb4))) | fail
      rename_i hh
      have hlow := hidden hh.2
      replace hown4 := hidden hown4
      clear hh hs0 hcs hb4 hq'
      go_wp2
      go_roundw
      case rel => exact ⟨k + 1, hlt, by go_num, by rw [htk.out]; exact hown4.out, hlow.out⟩
      case measure => simp [RowKit.intOf]; omega
    · obtain rfl : k = l.length := by omega
      rw [List.take_length] at hown
      replace hown := hidden hown
      replace hb := hidden hb
      go_wp2
      go_ret
      exact ⟨_, rfl, hown.out, hb.out⟩
end Go.Proofs.YtghkmagofadkfaaDoor
