/-
  Sum.
-/
import Derived.Test.YtghkmagofadkfaaDoorCaps6
namespace Go.Proofs.YtghkmagofadkfaaDoor
open Go.RowKit Go.Maps Go.MapKept
set_option linter.unusedVariables false

theorem kinds_at0 (w : World) : (Instr.index 78 (.agg #[.int .i64 3, .int .i64 2, .int .i64 1]) (.int .i64 0)).run Tryd.prog w = .ok (.int .i64 3) w := by kernel_rfl
theorem kinds_at1 (w : World) : (Instr.index 78 (.agg #[.int .i64 3, .int .i64 2, .int .i64 1]) (.int .i64 1)).run Tryd.prog w = .ok (.int .i64 2) w := by kernel_rfl
theorem kinds_at2 (w : World) : (Instr.index 78 (.agg #[.int .i64 3, .int .i64 2, .int .i64 1]) (.int .i64 2)).run Tryd.prog w = .ok (.int .i64 1) w := by kernel_rfl
/-- what Sum answers. -/
def SumAt (A : Nat → Addr) (T : CTab) (l : List Ln) (w : World) (e : Ending) (w' : World) : Prop :=
  ((∃ k ga, badL l = some k ∧ e = .returned (.tuple #[.int .i64 0, .iface 72 (.pointer (some ⟨ga, 0, none⟩))]) ∧ AtIn w' ga (k : Int) (A 2)) ∨
    (badL l = none ∧ e = .returned (.tuple #[.int .i64 (suV T l), errOf A (suC T l)]))) ∧ Below w.heap.size w w'
def SuRel1 (l : List Ln) (w0 : World) (i : Value) (w : World) : Prop := ∃ k : Nat, k ≤ l.length ∧ i = .int .i64 (k : Int) ∧ (∀ j, j < k → lnOk (l.getD j lnZ)) ∧ Below w0.heap.size w0 w
def SuRel2 (T : CTab) (l : List Ln) (N : Nat) (w0 : World) (m i : Value) (w : World) : Prop :=
  ∃ (j b n : Nat) (G : GTab), (j = 0 ∨ j = 1 ∨ j = 2 ∨ j = 3) ∧ i = .int .i64 (j : Int) ∧ n ≤ N ∧ m = .map (some b) ∧ GrMap w b n G ∧ LvAt T l (3 - (j : Int)) G ∧ (∀ q : Int, 3 - (j : Int) < q → q ≤ 3 → fitK T l q) ∧ Below w0.heap.size w0 w
theorem suRel2_next {T : CTab} {l : List Ln} {N j b n : Nat} {w0 w : World} {G H : GTab} (hG : LvAt T l (3 - (j : Int)) G) (hf : ∀ q : Int, 3 - (j : Int) < q → q ≤ 3 → fitK T l q) (hj : j = 0 ∨ j = 1 ∨ j = 2) (hn : n ≤ N) (hH : GrMap w b n H) (hL : LvAt T l (3 - (j : Int) - 1) H) (hb : Below w0.heap.size w0 w) :
    SuRel2 T l N w0 (.map (some b)) (.int .i64 ((j : Int) + 1)) w := by
  refine ⟨j + 1, b, n, H, by omega, rfl, hn, rfl, hH, ?_, fun q h1 h2 => ?_, hb⟩
  · have e : 3 - (((j + 1 : Nat) : Int)) = 3 - (j : Int) - 1 := by omega
    rw [e]; exact hL
  · by_cases e : q = 3 - (j : Int)
    · rw [e]; exact hG.fit
    · exact hf q (by omega) h2
theorem suRel2_end {T : CTab} {l : List Ln} {G : GTab} (hb : badL l = none) (hG : LvAt T l 0 G) (hf : ∀ q : Int, 0 < q → q ≤ 3 → fitK T l q) : getG G (0, 0, 0) = suV T l ∧ suC T l = 0 := by
  have hfit := fits_mk (hf 3 (by omega) (by omega)) (hf 2 (by omega) (by omega)) (hf 1 (by omega) (by omega)) hG.fit
  obtain ⟨h1, h2⟩ := su_fine hb hfit
  rw [h1, h2]
  exact ⟨hG.2 (0, 0, 0) ⟨rfl, rfl, rfl⟩, rfl⟩
set_option maxRecDepth 100000 in
set_option maxHeartbeats 6400000 in
theorem cpSum_any (A : Nat → Addr) (w : World) (B g n : Nat) (T : CTab) (h : CpAt w B g n T) (v : Value) (l : List Ln) (hr : Row lnV 4 w v l) (hl : l.length ≤ 100000) (hE : ErrsOn [2, 3] w A) :
    Calls Tryd.prog 15 #[.pointer (some ⟨g, 0, none⟩), v] w (SumAt A T l w) := by
  obtain ⟨a1, c1, rfl⟩ := row_slice hr
  have hx1 := hidden (fun k hk W (h2 : Below w.heap.size w W) => rowL_at (hr.below lnV_len h2 (Nat.le_refl _)) k hk)
  have hgat := hidden (fun W (h2 : Below w.heap.size w W) hok => gather_any A W _ l (hr.below lnV_len h2 (Nat.le_refl _)) hl hok (hE.below h2 (Nat.le_refl _)))
  have hwid := hidden (fun W (h2 : Below w.heap.size w W) b nb G hM hn k hk hG => widen_any A W B g n T (h.below h2 (Nat.le_refl _)) b nb G hM hn l k hk hG (hE.below h2 (Nat.le_refl _)))
  have hcE := hidden (fun W (h2 : Below w.heap.size w W) => (hE.below h2 (Nat.le_refl _)) 2 (by simp))
  have i0 := kinds_at0
  have i1 := kinds_at1
  have i2 := kinds_at2
  unfold SumAt
  clear h hr hE
  go_enter Tryd.func15, Tryd.ntmps15
  go_wp2_with fail
  go_loopw [14] (fun i wr => SuRel1 l w i wr) (fun i _ => l.length - (RowKit.intOf i).toNat)
  case atStart => exact ⟨0, Nat.zero_le _, rfl, fun j hj => absurd hj (Nat.not_lt_zero _), Below.refl _ _⟩
  case round =>
    obtain ⟨k, hk, rfl, hok, hb⟩ := hrel
    by_cases hlt : k < l.length
    · obtain ⟨b, o, rfl, q0, q1, q2, q3⟩ := hx1.out k hlt _ hb
      have hlI : (k : Int) < (l.length : Int) := by omega
      by_cases hx : lnOk (l.getD k lnZ)
      · have hok2 := hidden (show ∀ j, j < k + 1 → lnOk (l.getD j lnZ) from fun j hj => by
          rcases Nat.lt_succ_iff_lt_or_eq.1 hj with q | rfl
          · exact hok j q
          · exact hx)
        have hI := hidden (isLine_any (l.getD k lnZ) (wr.alloc (lnO 58 (l.getD k lnZ))))
        rw [decide_eq_true hx] at hI
        generalize l.getD k lnZ = x at *
        obtain ⟨c, m, i, u⟩ := x
        have hbW := hidden (hb.alloc hb.size (lnO 58 ⟨c, m, i, u⟩))
        replace hok := hidden hok
        clear hx hb
        simp only at q0 q1 q2 q3
        go_wp2_with fail
        (with_reducible refine hI.out.mono ?_)
        rintro e w5 ⟨rfl, hb5⟩
        replace hb5 := hidden (hbW.out.trans (hb5.mono hbW.out.size))
        clear hbW hI
        go_wp2
        go_roundw
        case rel => exact ⟨k + 1, hlt, by go_num, hok2.out, hb5.out⟩
        case measure => simp [RowKit.intOf]; omega
      · have hbad := hidden (badL_first hlt hok hx)
        have hI := hidden (isLine_any (l.getD k lnZ) (wr.alloc (lnO 58 (l.getD k lnZ))))
        rw [decide_eq_false hx] at hI
        replace hok := hidden hok
        clear hx
        generalize l.getD k lnZ = x at *
        obtain ⟨c, m, i, u⟩ := x
        have hbW := hidden (hb.alloc hb.size (lnO 58 ⟨c, m, i, u⟩))
        clear hb
        simp only at q0 q1 q2 q3
        go_wp2_with fail
        (with_reducible refine hI.out.mono ?_)
        rintro e w5 ⟨rfl, hb5⟩
        replace hb5 := hidden (hbW.out.trans (hb5.mono hbW.out.size))
        have cE := hcE.out _ hb5.out
        have cE2 : w5.cell? ⟨0, 0, none⟩ = some (errAt (A 2)) := cE
        clear hbW hI cE
        go_wp2_with fail
        go_region
        go_wp2
        go_ret2
        exact ⟨.inl ⟨k, w5.heap.size, hbad.out, rfl, heap_alloc_new w5 _⟩, (hb5.out.alloc hb5.out.size _).drew⟩
    · obtain rfl : k = l.length := by omega
      have hall := all_of_getD hok
      have hbn := badL_fine hall
      have hG := hidden (hgat.out _ hb hall)
      replace hb := hidden hb
      replace hbn := hidden hbn
      clear hgat hall hok hcE hx1
      unfold GrsAt at hG
      go_wp2_with fail
      (with_reducible refine hG.out.mono ?_)
      rintro e w5 (⟨b1, n1, G1, hn1, rfl, hM1, hg1, hb1⟩ | ⟨rfl, hno, hb1⟩)
      · have hb2 := hidden (hb.out.trans (hb1.mono hb.out.size))
        have hL3 := hidden (show LvAt T l 3 G1 from hg1)
        replace hM1 := hidden hM1
        clear hG hg1 hb1 hb
        go_wp2_with fail
        go_loopw [8, 37] (fun m i wr => SuRel2 T l l.length w m i wr) (fun _ i _ => 3 - (RowKit.intOf i).toNat)
        case atStart => exact ⟨0, b1, n1, G1, .inl rfl, rfl, hn1, rfl, hM1.out, hL3.out, fun q h1 h2 => by omega, hb2.out⟩
        case round =>
          obtain ⟨j, b3, n3, G3, hj, rfl, hn3, rfl, hM3, hg3, hf3, hb3⟩ := hrel
          clear hM1 hL3 hb2
          rcases hj with rfl | rfl | rfl | rfl
          · have hW := hidden (hwid.out wr hb3 b3 n3 G3 hM3 (by omega) 3 (by unfold kOk; omega) hg3)
            replace hM3 := hidden hM3
            replace hg3 := hidden hg3
            replace hf3 := hidden hf3
            replace hb3 := hidden hb3
            clear hwid
            unfold GrsAt at hW
            go_wp2_with fail
            (with_reducible refine hW.out.mono ?_)
            rintro e w6 (⟨b4, n4, G4, hn4, rfl, hM4, hg4, hb4⟩ | ⟨rfl, hno, hb4⟩)
            · replace hb4 := hidden (hb3.out.trans (hb4.mono hb3.out.size))
              have hnx := hidden (suRel2_next (j := 0) hg3.out hf3.out (by omega) (Nat.le_trans hn4 hn3) hM4 hg4 hb4.out)
              clear hM4 hg4 hW hM3
              go_wp2
              go_roundw
              case rel => exact hnx.out
              case measure => simp [RowKit.intOf]
            · have hend := hidden (su_over hbn.out hno)
              replace hb4 := hidden (hb3.out.trans (hb4.mono hb3.out.size))
              clear hW hM3 hno
              go_wp2
              go_ret2
              exact ⟨.inr ⟨hbn.out, ret_iv hend.out.1.symm (by rw [hend.out.2]; rfl)⟩, hb4.out⟩
          · have hW := hidden (hwid.out wr hb3 b3 n3 G3 hM3 (by omega) 2 (by unfold kOk; omega) hg3)
            replace hM3 := hidden hM3
            replace hg3 := hidden hg3
            replace hf3 := hidden hf3
            replace hb3 := hidden hb3
            clear hwid
            unfold GrsAt at hW
            go_wp2_with fail
            (with_reducible refine hW.out.mono ?_)
            rintro e w6 (⟨b4, n4, G4, hn4, rfl, hM4, hg4, hb4⟩ | ⟨rfl, hno, hb4⟩)
            · replace hb4 := hidden (hb3.out.trans (hb4.mono hb3.out.size))
              have hnx := hidden (suRel2_next (j := 1) hg3.out hf3.out (by omega) (Nat.le_trans hn4 hn3) hM4 hg4 hb4.out)
              clear hM4 hg4 hW hM3
              go_wp2
              go_roundw
              case rel => exact hnx.out
              case measure => simp [RowKit.intOf]
            · have hend := hidden (su_over hbn.out hno)
              replace hb4 := hidden (hb3.out.trans (hb4.mono hb3.out.size))
              clear hW hM3 hno
              go_wp2
              go_ret2
              exact ⟨.inr ⟨hbn.out, ret_iv hend.out.1.symm (by rw [hend.out.2]; rfl)⟩, hb4.out⟩
          · have hW := hidden (hwid.out wr hb3 b3 n3 G3 hM3 (by omega) 1 (by unfold kOk; omega) hg3)
            replace hM3 := hidden hM3
            replace hg3 := hidden hg3
            replace hf3 := hidden hf3
            replace hb3 := hidden hb3
            clear hwid
            unfold GrsAt at hW
            go_wp2_with fail
            (with_reducible refine hW.out.mono ?_)
            rintro e w6 (⟨b4, n4, G4, hn4, rfl, hM4, hg4, hb4⟩ | ⟨rfl, hno, hb4⟩)
            · replace hb4 := hidden (hb3.out.trans (hb4.mono hb3.out.size))
              have hnx := hidden (suRel2_next (j := 2) hg3.out hf3.out (by omega) (Nat.le_trans hn4 hn3) hM4 hg4 hb4.out)
              clear hM4 hg4 hW hM3
              go_wp2
              go_roundw
              case rel => exact hnx.out
              case measure => simp [RowKit.intOf]
            · have hend := hidden (su_over hbn.out hno)
              replace hb4 := hidden (hb3.out.trans (hb4.mono hb3.out.size))
              clear hW hM3 hno
              go_wp2
              go_ret2
              exact ⟨.inr ⟨hbn.out, ret_iv hend.out.1.symm (by rw [hend.out.2]; rfl)⟩, hb4.out⟩
          · have hend := hidden (suRel2_end hbn.out hg3 hf3)
            have hlk := gr_look hM3 (w' := wr) rfl (s := (0, 0, 0)) (by unfold grIn; simp)
            replace hb3 := hidden hb3
            clear hwid hM3 hg3 hf3
            go_wp2
            go_ret2
            exact ⟨.inr ⟨hbn.out, ret_iv hend.out.1 (by rw [hend.out.2]; rfl)⟩, hb3.out⟩
      · have hend := hidden (su_over hbn.out (hno T))
        have hb2 := hidden (hb.out.trans (hb1.mono hb.out.size))
        clear hno hb1
        go_wp2
        go_ret2
        exact ⟨.inr ⟨hbn.out, ret_iv hend.out.1.symm (by rw [hend.out.2]; rfl)⟩, hb2.out⟩
end Go.Proofs.YtghkmagofadkfaaDoor
