/-
  slices.SortStableFunc; cheapestFirst.
-/
import Derived.Test.YtaojahjgfgmpfaaDoorLots7
namespace Go.Proofs.YtaojahjgfgmpfaaDoor
open Go.RowKit
set_option linter.unusedVariables false

def SortAt (L : List Lt) (gb : Nat) (w0 : World) (e : Ending) (w' : World) : Prop := e = .returned (.tuple #[]) ∧ NumAt inTy w' gb (nats (ordL L)) ∧ Below w0.heap.size w0 w'
set_option maxRecDepth 100000 in
set_option maxHeartbeats 6400000 in
theorem stable_any (la : Option Addr) (lc g gb : Nat) (L : List Lt) (w0 w : World) (hr : Row ltV 4 w0 (.slice la L.length lc) L) (hbig : ∀ x ∈ L, ltBig x) (hv : ∀ x ∈ L, 0 ≤ x.v) (hg : w0.cell? ⟨g, 0, none⟩ = some (.slice la L.length lc)) (hgb : w0.heap.size = gb)
    (h1 : 1 ≤ L.length) (h8 : L.length ≤ 8) (hN : NumAt inTy w gb (nats (List.range L.length))) (hb : Below w0.heap.size w0 w) :
    Calls Tryd.prog 68 #[.slice (some ⟨gb, 0, none⟩) L.length L.length, .int .i64 (L.length : Int), .func (.func 84) #[] #[.pointer (some ⟨g, 0, none⟩)]] w (SortAt L gb w0) := by
  have hS := hidden (isort_any la lc g gb L w0 w hr hbig hv hg hgb h1 h8 hN hb)
  clear hr hbig hv hg hN hb
  unfold SortAt
  generalize L.length = n at *
  have hnI : (n : Int) ≤ 8 := by omega
  have hnL : ¬ (20 : Int) ≤ (n : Int) := by omega
  have hnM : ¬ (20 : Int) < (n : Int) := by omega
  go_enter Tryd.func68, Tryd.ntmps68
  go_wp2_with fail
  go_loopw [7, 8] (fun b c wr => b = .int .i64 0 ∧ c = .int .i64 20 ∧ w = wr) (fun _ _ _ => 0)
  case atStart => exact ⟨rfl, rfl, rfl⟩
  case round =>
    obtain ⟨rfl, rfl, rfl⟩ := hrel
    go_wp2_with fail
    (with_reducible refine hS.out.mono ?_)
    rintro e w5 ⟨rfl, hA, hb5⟩
    replace hA := hidden hA
    replace hb5 := hidden hb5
    clear hS
    go_wp2_with fail
    go_loopw [6] (fun a wr => a = .int .i64 20 ∧ w5 = wr) (fun _ _ => 0)
    case atStart => exact ⟨rfl, rfl⟩
    case round =>
      obtain ⟨rfl, rfl⟩ := hrel
      go_wp2
      go_end0
      exact ⟨rfl, hA.out, hb5.out⟩
set_option maxRecDepth 100000 in
set_option maxHeartbeats 6400000 in
theorem sortStable_any (la : Option Addr) (lc g gb : Nat) (L : List Lt) (w0 w : World) (hr : Row ltV 4 w0 (.slice la L.length lc) L) (hbig : ∀ x ∈ L, ltBig x) (hv : ∀ x ∈ L, 0 ≤ x.v) (hg : w0.cell? ⟨g, 0, none⟩ = some (.slice la L.length lc)) (hgb : w0.heap.size = gb)
    (h1 : 1 ≤ L.length) (h8 : L.length ≤ 8) (hN : NumAt inTy w gb (nats (List.range L.length))) (hb : Below w0.heap.size w0 w) :
    Calls Tryd.prog 55 #[.slice (some ⟨gb, 0, none⟩) L.length L.length, .func (.func 84) #[] #[.pointer (some ⟨g, 0, none⟩)]] w (SortAt L gb w0) := by
  have hS := hidden (stable_any la lc g gb L w0 w hr hbig hv hg hgb h1 h8 hN hb)
  clear hr hbig hv hg hN hb
  unfold SortAt at hS ⊢
  generalize L.length = n at *
  go_enter Tryd.func55, Tryd.ntmps55
  go_wp2_with fail
  (with_reducible refine hS.out.mono ?_)
  rintro e w5 ⟨rfl, hA, hb5⟩
  replace hA := hidden hA
  replace hb5 := hidden hb5
  clear hS
  go_wp2
  go_end0
  exact ⟨rfl, hA.out, hb5.out⟩
def ChRel (n gb p : Nat) (lv : Value) (w0 : World) (i : Value) (w : World) : Prop :=
  ∃ k : Nat, k ≤ n ∧ i = .int .i64 (k : Int) ∧ NumAt inTy w gb (fillL (nats (List.range n)) k) ∧ Below w0.heap.size w0 w
theorem natr_at (n k : Nat) (h : k < n) : (nats (List.range n)).getD k 0 = (k : Int) := by
  rw [nats_at, List.getD_eq_getElem?_getD, List.getElem?_range h]
  rfl
abbrev lsTy : TypeId := 22
def ChAt (L : List Lt) (w : World) (e : Ending) (w' : World) : Prop := ∃ g, e = .returned (.slice (some ⟨g, 0, none⟩) L.length L.length) ∧ w.heap.size ≤ g ∧ NumAt inTy w' g (nats (ordL L)) ∧ Below w.heap.size w w'
set_option maxRecDepth 100000 in
set_option maxHeartbeats 6400000 in
theorem cheapest_any (lv : Value) (L : List Lt) (w : World) (hr : Row ltV 4 w lv L) (hbig : ∀ x ∈ L, ltBig x) (hv : ∀ x ∈ L, 0 ≤ x.v) (h1 : 1 ≤ L.length) (h8 : L.length ≤ 8) :
    Calls Tryd.prog 73 #[lv] w (ChAt L w) := by
  have hmf : ∀ (fn : Fn) (first cap : Array Value) (w : World), (Instr.makeFunc fn first cap).run Tryd.prog w = .ok (.func fn first cap) w := fun _ _ _ _ => rfl
  obtain ⟨la, lc, rfl⟩ := row_slice hr
  have hb0 : Below w.heap.size w (w.alloc (.cells #[.slice la L.length lc] lsTy)) := (Below.refl _ w).alloc (Nat.le_refl _) _
  have hgb : (w.alloc (.cells #[.slice la L.length lc] lsTy)).heap.size = w.heap.size + 1 := by simp
  have hg : (w.alloc (.cells #[.slice la L.length lc] lsTy)).cell? ⟨w.heap.size, 0, none⟩ = some (.slice la L.length lc) := by rw [cell_of_row _ _ _ _ _ _ (heap_alloc_new w (.cells #[.slice la L.length lc] lsTy))]; rfl
  have hS := hidden (fun W => sortStable_any la lc w.heap.size (w.heap.size + 1) L (w.alloc (.cells #[.slice la L.length lc] lsTy)) W (hr.below ltV_len hb0 (Nat.le_refl _)) hbig hv hg hgb h1 h8)
  unfold SortAt at hS
  unfold ChAt
  have hmk := mk_ints18 L.length (by omega)
  have hn := hidden (numAt_new inTy (w.alloc (.cells #[.slice la L.length lc] lsTy)) L.length)
  have hbA := (Below.refl (w.alloc (.cells #[.slice la L.length lc] lsTy)).heap.size (w.alloc (.cells #[.slice la L.length lc] lsTy))).alloc (Nat.le_refl _) (.cells (Array.replicate L.length (.int .i64 0)) inTy)
  have hg2 : ((w.alloc (.cells #[.slice la L.length lc] lsTy)).alloc (.cells (Array.replicate L.length (.int .i64 0)) inTy)).cell? ⟨w.heap.size, 0, none⟩ = some (.slice la L.length lc) := by
    rw [World.cell?_of_block (hbA.block w.heap.size (by simp))]; exact hg
  have hst : NumAt inTy ((w.alloc (.cells #[.slice la L.length lc] lsTy)).alloc (.cells (Array.replicate L.length (.int .i64 0)) inTy)) (w.heap.size + 1) (fillL (nats (List.range L.length)) 0) := by
    unfold fillL
    rw [nats_len, List.length_range]
    simpa using hn.out
  replace hst := hidden hst
  replace hbA := hidden hbA
  replace hb0 := hidden hb0
  replace hgb := hidden hgb
  have hfs := hidden (fun k h => fillL_set (nats (List.range L.length)) k h)
  have hfe := hidden (show fillL (nats (List.range L.length)) L.length = nats (List.range L.length) by have := fillL_end (nats (List.range L.length)); rwa [nats_len, List.length_range] at this)
  have hnl := hidden (show (nats (List.range L.length)).length = L.length by rw [nats_len, List.length_range])
  have hfn := hidden (fun k h => fillL_len (nats (List.range L.length)) (k := k) h)
  have hna := hidden (fun k h => natr_at L.length k h)
  have hlI : (L.length : Int) ≤ 8 := by omega
  clear hr hbig hv hn
  go_enter Tryd.func73, Tryd.ntmps73
  go_wp2_with fail
  go_loopw [10] (fun i wr => ChRel L.length (w.heap.size + 1) w.heap.size (.slice la L.length lc) (w.alloc (.cells #[.slice la L.length lc] lsTy)) i wr) (fun i _ => L.length - (RowKit.intOf i).toNat)
  case atStart => exact ⟨0, Nat.zero_le _, rfl, hst.out, hbA.out⟩
  case round =>
    clear hst hbA hg hg2
    obtain ⟨k, hk, rfl, hA, hb3⟩ := hrel
    by_cases hlt : k < L.length
    · have hkI : (k : Int) < (L.length : Int) := by omega
      have cg := hA.cell (i := k) (by rw [hfn.out k (by rw [hnl.out]; omega), hnl.out]; exact hlt)
      have fg := hA.frozen k
      have hA3 := hidden (hA.set k ((nats (List.range L.length)).getD k 0))
      rw [hfs.out k (by rw [hnl.out]; exact hlt), hna.out k hlt] at hA3
      generalize (fillL (nats (List.range L.length)) k).getD k 0 = z at *
      have hbn := hidden (hb3.setCell (p := ⟨w.heap.size + 1, k, none⟩) (Nat.le_of_eq hgb.out) (.int .i64 (k : Int)))
      clear hA hb3
      go_wp2
      go_roundw
      case rel => exact ⟨k + 1, hlt, by go_num, hA3.out, hbn.out⟩
      case measure => simp [RowKit.intOf]; omega
    · obtain rfl : k = L.length := by omega
      rw [hfe.out] at hA
      have hS2 := hidden (hS.out _ hA hb3)
      clear hS hA hb3
      go_wp2_with fail
      (with_reducible refine hS2.out.mono ?_)
      rintro e w5 ⟨rfl, hA5, hb5⟩
      replace hA5 := hidden hA5
      replace hb5 := hidden (hb0.out.trans (hb5.mono hb0.out.size))
      clear hS2
      go_wp2
      go_ret
      exact ⟨_, rfl, Nat.le_succ _, hA5.out, hb5.out⟩
end Go.Proofs.YtaojahjgfgmpfaaDoor
