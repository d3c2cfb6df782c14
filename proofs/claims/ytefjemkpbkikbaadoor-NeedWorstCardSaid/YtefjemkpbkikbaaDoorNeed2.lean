/-
  Worst, Total.
-/
import Derived.Test.YtefjemkpbkikbaaDoorNeed1
namespace Go.Proofs.YtefjemkpbkikbaaDoor
open Go.RowKit
set_option linter.unusedVariables false

abbrev NdAt (w : World) (b o : Nat) (s : Nd) : Prop := w.cell? ⟨b, o, none⟩ = some (.int .i64 s.n) ∧ w.cell? ⟨b, o + 1, none⟩ = some (.int .i64 s.h)
theorem rowN_at {w : World} {a : Option Addr} {n c : Nat} {l : List Nd} (h : Row ndV 2 w (.slice a n c) l) (k : Nat) (hk : k < n) : ∃ b o, a = some ⟨b, o, none⟩ ∧ NdAt w b (o + k * 2) (l.getD k ndZ) := by
  obtain ⟨b, o, rfl, hc⟩ := h.at ndV_len ndZ k hk (by decide)
  exact ⟨b, o, rfl, hc 0 (by omega), hc 1 (by omega)⟩
def WsRel (l : List Nd) (w0 : World) (p m i : Value) (w : World) : Prop := ∃ (k q : Nat) (x : Int), k ≤ l.length ∧ i = .int .i64 (k : Int) ∧ p = .int .i64 (q : Int) ∧ m = .int .i64 x ∧ WsAt l k q x ∧ Below w0.heap.size w0 w
def WorstAt (l : List Nd) (w : World) (e : Ending) (w' : World) : Prop := ∃ (q : Nat) (x : Int), WsAt l l.length q x ∧ e = .returned (.tuple #[.int .i64 (q : Int), .bool (decide (0 < x))]) ∧ Below w.heap.size w w'
set_option maxRecDepth 100000 in
set_option maxHeartbeats 3200000 in
theorem worst_any (A : Nat → Addr) (w : World) (v : Value) (l : List Nd) (hr : Row ndV 2 w v l) (hl : l.length ≤ 1000000) (hE : ErrsOn [2] w A) : Calls Tryd.prog 15 #[v] w (WorstAt l w) := by
  obtain ⟨a1, c1, rfl⟩ := row_slice hr
  have hx1 := hidden (fun k hk W (h2 : Below w.heap.size w W) => rowN_at (hr.below ndV_len h2 (Nat.le_refl _)) k hk)
  have hSh := hidden (fun s W (h2 : Below w.heap.size w W) => short_any A s W (hE.below h2 (Nat.le_refl _)))
  unfold WorstAt
  clear hr hE
  go_enter Tryd.func15, Tryd.ntmps15
  go_wp2_with fail
  go_loopw [4, 5, 11] (fun p m i wr => WsRel l w p m i wr) (fun _ _ i _ => l.length - (RowKit.intOf i).toNat)
  case atStart => exact ⟨0, 0, 0, Nat.zero_le _, rfl, rfl, rfl, wsAt_nil l, Below.refl _ _⟩
  case round =>
    obtain ⟨k, q, x, hk, rfl, rfl, rfl, hws, hb⟩ := hrel
    by_cases hlt : k < l.length
    · obtain ⟨b, o, rfl, q0, q1⟩ := hx1.out k hlt _ hb
      have hlI : (k : Int) < (l.length : Int) := by omega
      have hN := hidden (fun h => wsAt_new hws h)
      have hO := hidden (fun h => wsAt_old hws h)
      have hx0 := hws.1
      generalize l.getD k ndZ = e at *
      have hbn := hidden (hb.trans ((below_nd wr e).mono hb.size))
      have hs := hidden (hSh.out e _ hbn.out)
      have hby := shV_bd e
      generalize shV e = y at *
      obtain ⟨n, h⟩ := e
      simp only at q0 q1
      replace hb := hidden hb
      clear hws hx1
      by_cases hy : x < y
      · go_wp2_with fail
        (with_reducible refine hs.out.mono ?_)
        rintro e w5 ⟨rfl, hb5⟩
        have hb6 := hidden (hbn.out.trans (hb5.mono hbn.out.size))
        clear hs hb5 hbn
        go_wp2
        go_roundw
        case rel => exact ⟨k + 1, k, y, hlt, by go_num, rfl, rfl, hN.out hy, hb6.out⟩
        case measure => simp [RowKit.intOf]; omega
      · go_wp2_with fail
        (with_reducible refine hs.out.mono ?_)
        rintro e w5 ⟨rfl, hb5⟩
        have hb6 := hidden (hbn.out.trans (hb5.mono hbn.out.size))
        clear hs hb5 hbn
        go_wp2
        go_roundw
        case rel => exact ⟨k + 1, q, x, hlt, by go_num, rfl, rfl, hO.out (by omega), hb6.out⟩
        case measure => simp [RowKit.intOf]; omega
    · obtain rfl : k = l.length := by omega
      replace hb := hidden hb
      replace hws := hidden hws
      go_wp2
      go_ret2
      exact ⟨q, x, hws.out, rfl, hb.out⟩
def TotalRel (l : List Nd) (g : Nat) (w0 : World) (i : Value) (w : World) : Prop :=
  ∃ k : Nat, k ≤ l.length ∧ i = .int .i64 (k : Int) ∧ (∀ j, j < k → ndOk (l.getD j ndZ)) ∧ LongAt w g ((l.take k).map shV ++ List.replicate (l.length - k) 0) ∧ Below w0.heap.size w0 w
set_option maxRecDepth 100000 in
set_option maxHeartbeats 3200000 in
theorem needTotal_any (A : Nat → Addr) (w : World) (v : Value) (l : List Nd) (hr : Row ndV 2 w v l) (hl : l.length ≤ 1000) (hE : ErrsOn [2, 3] w A) :
    Calls Tryd.prog 14 #[v] w fun e w' => e = .returned (.tuple #[.int .i64 (ndTV l), errOf A (ndTC l)]) ∧ Below w.heap.size w w' := by
  obtain ⟨a1, c1, rfl⟩ := row_slice hr
  have hx1 := hidden (fun k hk W (h2 : Below w.heap.size w W) => rowN_at (hr.below ndV_len h2 (Nat.le_refl _)) k hk)
  have hSh := hidden (fun s W (h2 : Below w.heap.size w W) => short_any A s W ((hE.sub (ks := [2]) (by simp)).below h2 (Nat.le_refl _)))
  have hVa := hidden (fun s W (h2 : Below w.heap.size w W) => ndValid_any A s W ((hE.sub (ks := [2]) (by simp)).below h2 (Nat.le_refl _)))
  have hO := hidden (fun W (h2 : Below w.heap.size w W) => show W.cell? ⟨1, 0, none⟩ = some (errAt (A 3)) from (hE.below h2 (Nat.le_refl _)) 3 (by simp))
  have hmk := mk_longs l.length (by omega)
  have hn := hidden (longAt_new w l.length)
  have hbn := hidden ((Below.refl _ w).alloc (Nat.le_refl _) (.cells (Array.replicate l.length (.int .i64 0)) 2))
  clear hr hE
  go_enter Tryd.func14, Tryd.ntmps14
  go_wp2_with fail
  go_loopw [15] (fun i wr => TotalRel l w.heap.size w i wr) (fun i _ => l.length - (RowKit.intOf i).toNat)
  case atStart => exact ⟨0, Nat.zero_le _, rfl, (fun j hj => by omega), by simpa using hn.out, hbn.out⟩
  case round =>
    clear hn hbn
    obtain ⟨k, hk, rfl, hok, hL, hb⟩ := hrel
    by_cases hlt : k < l.length
    · obtain ⟨b, o, rfl, q0, q1⟩ := hx1.out k hlt _ hb
      have hlI : (k : Int) < (l.length : Int) := by omega
      by_cases he : ndOk (l.getD k ndZ)
      · have hok2 := hidden (show ∀ j, j < k + 1 → ndOk (l.getD j ndZ) from fun j hj => by
          by_cases e : j = k
          · subst e; exact he
          · exact hok j (by omega))
        have hst := hidden (ndShorts_set l k hlt)
        generalize l.getD k ndZ = e at *
        have hbw := below_nd wr e
        have hbn := hidden (hb.trans (hbw.mono hb.size))
        have hv := hidden (hVa.out e _ hbn.out)
        rw [show ndC e = 0 from if_pos he, errOf_fine] at hv
        have hL2 := hidden (hL.below hbw (Nat.le_refl _))
        have hwl := hidden hL.lt
        have hcell := hidden (heap_alloc_new wr (ndO e))
        obtain ⟨n, h⟩ := e
        simp only at q0 q1
        replace hb := hidden hb
        clear hok hL hbw hx1
        go_wp2_with fail
        (with_reducible refine hv.out.mono ?_)
        rintro e w5 ⟨rfl, hb5⟩
        have hb6 := hidden (hbn.out.trans (hb5.mono hbn.out.size))
        have hL5 := hL2.out.below hb5 (Nat.le_refl _)
        have hrow := (hb5.block wr.heap.size (by simp)).trans hcell.out
        have c0 : w5.cell? ⟨wr.heap.size, 0, none⟩ = some (.int .i64 n) := by rw [cell_of_row _ _ _ _ _ _ hrow]; rfl
        have c1 : w5.cell? ⟨wr.heap.size, 1, none⟩ = some (.int .i64 h) := by rw [cell_of_row _ _ _ _ _ _ hrow]; rfl
        have hs := hidden (hSh.out ⟨n, h⟩ w5 hb6.out)
        have hL5' := hidden hL5
        clear hv hb5 hbn hL2 hL5 hcell hrow
        go_wp2_with fail
        (with_reducible refine hs.out.mono ?_)
        rintro e w6 ⟨rfl, hb7⟩
        have hL6 := hL5'.out.below hb7 (Nat.le_refl _)
        have hb8 := hidden (hb6.out.trans (hb7.mono hb6.out.size))
        have hlen : ((l.take k).map shV ++ List.replicate (l.length - k) 0).length = l.length := by simp; omega
        have c5 := hL6.cell (i := k) (by rw [hlen]; exact hlt)
        have f5 := hL6.frozen k
        have hL7 := hidden (hL6.set k (shV ⟨n, h⟩))
        rw [hst.out] at hL7
        have hb9 := hidden (show Below w.heap.size w (w6.setCell ⟨w.heap.size, k, none⟩ (.int .i64 (shV ⟨n, h⟩))) from hb8.out.setCell (Nat.le_refl _) _)
        clear hs hb7 hL5' hL6 hlen hst
        generalize shV ⟨n, h⟩ = y at *
        generalize ((l.take k).map shV ++ List.replicate (l.length - k) 0).getD k 0 = z at *
        go_wp2
        go_roundw
        case rel => exact ⟨k + 1, hlt, by go_num, hok2.out, hL7.out, hb9.out⟩
        case measure => simp [RowKit.intOf]; omega
      · have hbad := hidden (ndTC_bad (l := l) fun h => he (h _ (getN_mem hlt)))
        generalize l.getD k ndZ = e at *
        have hbw := below_nd wr e
        have hbn := hidden (hb.trans (hbw.mono hb.size))
        have hv := hidden (hVa.out e _ hbn.out)
        rw [show ndC e = 103 from if_neg he, show errOf A 103 = errAt (A 2) from rfl] at hv
        have hr1 := hidden (show 0 = ndTV l from hbad.out.2.symm)
        have hr2 := hidden (show errAt (A 2) = errOf A (ndTC l) by rw [hbad.out.1]; rfl)
        obtain ⟨n, h⟩ := e
        simp only at q0 q1
        replace hb := hidden hb
        clear hok hL hbw hx1 he hbad
        go_wp2_with fail
        (with_reducible refine hv.out.mono ?_)
        rintro e w5 ⟨rfl, hb5⟩
        have hb6 := hidden (hbn.out.trans (hb5.mono hbn.out.size))
        clear hv hb5 hbn
        go_wp2
        go_ret2
        exact ⟨ret_iv hr1.out hr2.out, hb6.out⟩
    · obtain rfl : k = l.length := by omega
      rw [List.take_length, Nat.sub_self, List.replicate_zero, List.append_nil] at hL
      have hall := getN_all hok
      have hS := hidden (sum_any _ (l.map shV) wr (hL.reads (n := l.length) (by simp) (by omega)) (by simp; omega) (fun x hx => by
        obtain ⟨s, _, rfl⟩ := List.mem_map.1 hx
        have := shV_bd s
        omega))
      rw [show total (l.map shV) = sumS l from rfl] at hS
      have hsb := sumS_all l
      have hin : in64 (sumS l) = true := (in64_iff _).2 (by omega)
      rw [cap64_yes hin, hin] at hS
      have hov := hO.out _ hb
      by_cases hM : sumS l ≤ 1000000000000000
      · have hf := hidden (ndTC_fine hall hM)
        have hr1 := hidden (show sumS l = ndTV l from hf.out.2.symm)
        have hr2 := hidden (show Value.nilIface = errOf A (ndTC l) by rw [hf.out.1]; rfl)
        replace hb := hidden hb
        clear hall hL hok hin hf
        generalize sumS l = y at *
        go_wp2_with fail
        (with_reducible refine hS.out.mono ?_)
        rintro e w5 ⟨rfl, rfl⟩
        go_wp2
        go_ret2
        exact ⟨ret_iv hr1.out hr2.out, hb.out⟩
      · have hf := hidden (ndTC_over hall (by omega))
        have hr1 := hidden (show 0 = ndTV l from hf.out.2.symm)
        have hr2 := hidden (show errAt (A 3) = errOf A (ndTC l) by rw [hf.out.1]; rfl)
        replace hb := hidden hb
        clear hall hL hok hin hf
        generalize sumS l = y at *
        go_wp2_with fail
        (with_reducible refine hS.out.mono ?_)
        rintro e w5 ⟨rfl, rfl⟩
        go_wp2_with fail
        go_quiet (fail)
        go_wp2
        go_ret2
        exact ⟨ret_iv hr1.out hr2.out, below_drewN hb.out⟩
end Go.Proofs.YtefjemkpbkikbaaDoor
