/-
  bucket, Of.
-/
import Derived.Test.YthlepeeejmeahaaDoorCut3
import Derived.Test.YthlepeeejmeahaaDoorAsset1
namespace Go.Proofs.YthlepeeejmeahaaDoor
open Go.RowKit Go.Maps
set_option linter.unusedVariables false

theorem as_cells (w w' : World) (a : As) (h : Below (w.alloc (asO a)).heap.size (w.alloc (asO a)) w') :
    w'.cell? ⟨w.heap.size, 0, none⟩ = some (.int .i64 a.i) ∧ w'.cell? ⟨w.heap.size, 1, none⟩ = some (.int .i64 a.s) ∧ w'.cell? ⟨w.heap.size, 2, none⟩ = some (.int .i64 a.c) ∧ w'.cell? ⟨w.heap.size, 3, none⟩ = some (.int .i64 a.m) ∧ w'.cell? ⟨w.heap.size, 4, none⟩ = some (.int .i64 a.e) := by
  have h1 : w'.heap[w.heap.size]? = some (asO a) := (h.block _ (by simp)).trans (heap_alloc_new w _)
  refine ⟨?_, ?_, ?_, ?_, ?_⟩ <;> (rw [cell_of_row _ _ _ _ _ _ h1]; rfl)
theorem bkA_ways (a : As) (v : Int) : ((a.c == 1) = true ∧ bkA a v = 0) ∨ ((a.c == 1) = false ∧ (a.e == 0) = true ∧ bkA a v = 5) ∨ ((a.c == 1) = false ∧ (a.e == 0) = false ∧ bkA a v = bkD v) := by
  unfold bkA
  by_cases h1 : a.c = 1
  · exact .inl ⟨by simpa using h1, if_pos h1⟩
  · by_cases h2 : a.e = 0
    · exact .inr (.inl ⟨by simpa using h1, by simpa using h2, by rw [if_neg h1, if_pos h2]⟩)
    · exact .inr (.inr ⟨by simpa using h1, by simpa using h2, by rw [if_neg h1, if_neg h2]⟩)
theorem cutBucket_any (a : As) (t : Int) (w : World) (h1 : -9223372036854775808 ≤ a.e) (h2 : a.e ≤ 9223372036854775807) (h3 : -9223372036854775808 ≤ t) (h4 : t ≤ 9223372036854775807) (hE : EndsOn w) :
    Calls Tryd.prog 28 #[asA a, .int .i64 t] w fun e w' => e = .returned (.int .i64 (bkA a (lfV a.e t))) ∧ Below w.heap.size w w' := by
  have hbw := hidden (fun w' (h : Below (w.alloc (asO a)).heap.size (w.alloc (asO a)) w') => (below_as w a).trans (h.mono (below_as w a).size))
  have hcs := hidden (fun w' => as_cells w w' a)
  have hC := hidden (fun W => cash_any a W)
  have hL := hidden (fun W => left_any a.e t W h1 h2 h3 h4)
  have hB := hidden (fun W (hb : Below w.heap.size w W) => bucket_any (lfV a.e t) W (hE.below hb (Nat.le_refl _)))
  have hw := bkA_ways a (lfV a.e t)
  generalize bkA a (lfV a.e t) = r at *
  generalize lfV a.e t = v at *
  clear h1 h2 h3 h4 hE
  obtain ⟨i, s, c, m, e⟩ := a
  rcases hw with ⟨t1, q⟩ | ⟨t1, t2, q⟩ | ⟨t1, t2, q⟩
  all_goals
    replace q := hidden q
    go_enter Tryd.func28, Tryd.ntmps28
    go_wp2_with fail
    refine (hC.out _).mono ?_
    rintro r' w1 ⟨rfl, hb⟩
    obtain ⟨_, _, _, _, k4⟩ := hcs.out _ hb
    have hb1 := hidden (hbw.out _ hb)
    clear hb hbw hC hcs
  · go_wp2
    go_ret
    exact ⟨ret_int q.out.symm, hb1.out⟩
  · go_wp2
    go_ret
    exact ⟨ret_int q.out.symm, hb1.out⟩
  · go_wp2_with fail
    refine (hL.out _).mono ?_
    rintro r' w2 ⟨rfl, rfl⟩
    go_wp2_with fail
    refine (hB.out _ hb1.out).mono ?_
    rintro r' w2 ⟨rfl, rfl⟩
    go_wp2
    go_ret
    exact ⟨ret_int q.out.symm, hb1.out⟩

/-- the cut of an asset today. -/
def cutV (T : StepT → Option Int) (fx : Int) (a : As) (t : Int) : Int := if AsOk a then (if lfB a.e t = true then liveCut T fx a (lfV a.e t) else 10000) else 0
abbrev FiveA (w0 : World) (k : Nat) (i s c m e : Int) (W : World) : Prop :=
  (W.cell? ⟨k, 0, none⟩ = some (.int .i64 i) ∧ W.cell? ⟨k, 1, none⟩ = some (.int .i64 s) ∧ W.cell? ⟨k, 2, none⟩ = some (.int .i64 c) ∧ W.cell? ⟨k, 3, none⟩ = some (.int .i64 m) ∧ W.cell? ⟨k, 4, none⟩ = some (.int .i64 e)) ∧ Below w0.heap.size w0 W
theorem fiveA_next {w0 W W' : World} {k : Nat} {i s c m e : Int} (h : FiveA w0 k i s c m e W) (hb : Below W.heap.size W W') : FiveA w0 k i s c m e W' := by
  obtain ⟨⟨h1, h2, h3, h4, h5⟩, h6⟩ := h
  refine ⟨?_, h6.trans (hb.mono h6.size)⟩
  refine ⟨?_, ?_, ?_, ?_, ?_⟩ <;> (rw [World.cell?_of_block (w := W) (hb.block _ (World.block_lt_of_cell? W _ (by assumption)))]; assumption)
theorem fiveA_drew {w0 W : World} {k : Nat} {i s c m e : Int} (h : FiveA w0 k i s c m e W) : FiveA w0 k i s c m e W.drew := ⟨h.1, h.2.drew⟩
theorem fiveA_low {w0 W : World} {k : Nat} {i s c m e : Int} (h : FiveA w0 k i s c m e W) : Below w0.heap.size w0 W := h.2
theorem liveCut_min (T : StepT → Option Int) (fx : Int) (a : As) (v x : Int) (hx : x = getT T (a.c, bkA a v)) : liveCut T fx a v = min (x + (if a.m = 1 then 0 else fx)) 10000 := by
  rw [hx]; rfl
set_option maxRecDepth 100000 in
set_option maxHeartbeats 6400000 in
theorem of_anyC (A : Nat → Addr) (w : World) (B g n : Nat) (T : StepT → Option Int) (fx : Int) (h : LadAt w B g n T fx) (a : As) (t : Int) (h3 : -9223372036854775808 ≤ t) (h4 : t ≤ 9223372036854775807) (hE : ErrsOn [2] w A) (hEnd : EndsOn w) :
    Calls Tryd.prog 18 #[.pointer (some ⟨g, 0, none⟩), asA a, .int .i64 t] w fun e w' => e = .returned (.int .i64 (cutV T fx a t)) ∧ Below w.heap.size w w' := by
  have hbw := hidden (fun w' (h : Below (w.alloc (asO a)).heap.size (w.alloc (asO a)) w') => (below_as w a).trans (h.mono (below_as w a).size))
  have hcs := hidden (fun w' => as_cells w w' a)
  have hV := hidden (fun W (hb : Below w.heap.size w W) => valid_any A a W (hE.below hb (Nat.le_refl _)))
  have hb0 := hidden (below_as w a)
  by_cases hok : AsOk a
  · have hd : cutV T fx a t = if lfB a.e t = true then liveCut T fx a (lfV a.e t) else 10000 := if_pos hok
    have hv0 : vC a = 0 := if_pos hok
    rw [hd]
    rw [hv0] at hV
    have hbe : (0 : Int) ≤ a.e ∧ a.e ≤ 40000 := hok.1.2.2.2.2
    have hbc : (1 : Int) ≤ a.c ∧ a.c ≤ 6 := hok.1.2.2.1
    have hL := hidden (fun W => live_any a t W (by omega) (by omega) h3 h4)
    have hLa := hidden (fun W (hb : Below w.heap.size w W) => h.below hb (Nat.le_refl _))
    have hBk := hidden (fun W (hb : Below w.heap.size w W) => cutBucket_any a t W (by omega) (by omega) h3 h4 (hEnd.below hb (Nat.le_refl _)))
    have hbd := bkA_bd a (lfV a.e t)
    have hG := hidden (fun W (hb : Below w.heap.size w W) => get_anyC W B g n T fx (h.below hb (Nat.le_refl _)) (a.c, bkA a (lfV a.e t)) (by unfold stIn; simp only; omega))
    have hgb := h.cut.get (a.c, bkA a (lfV a.e t))
    have hfx := h.fxOk
    unfold bpOk at hfx
    have hmin := hidden (liveCut_min T fx a (lfV a.e t) _ rfl)
    have hcfx := hidden (fun W (hb : Below w.heap.size w W) => show W.cell? ⟨g, 1, none⟩ = some (.int .i64 fx) by
      obtain ⟨m, hg, _⟩ := (h.below hb (Nat.le_refl _)).ex
      rw [cell_of_row _ _ _ _ _ _ hg]; rfl)
    generalize liveCut T fx a (lfV a.e t) = R at *
    generalize getT T (a.c, bkA a (lfV a.e t)) = x at *
    generalize bkA a (lfV a.e t) = bk at *
    generalize lfB a.e t = lf at *
    clear hd hv0 hE hEnd h h3 h4 hok hLa
    obtain ⟨i, s, c, m, e⟩ := a
    replace hbe := hidden hbe
    replace hbc := hidden hbc
    replace hbd := hidden hbd
    go_enter Tryd.func18, Tryd.ntmps18
    go_wp2_with fail
    refine (hV.out _ hb0.out).mono ?_
    rintro r w1 ⟨rfl, hb⟩
    have hc1 := hidden (hcs.out _ hb)
    have hb1 := hidden (hbw.out _ hb)
    clear hb hbw hcs hV
    have ef : errOf A 0 = .nilIface := rfl
    have s1 := hidden (show FiveA w w.heap.size i s c m e w1 from ⟨hc1.out, hb1.out⟩)
    obtain ⟨k0, k1, k2, k3, k4⟩ := hc1.out
    rw [ef]
    clear ef
    go_wp2_with fail
    refine (hL.out _).mono ?_
    rintro r w2 ⟨rfl, hb⟩
    have s2 := hidden (fiveA_next s1.out hb)
    clear k0 k1 k2 k3 k4 hc1 hb1 s1 hb hL
    cases lf with
    | false =>
      go_wp2
      go_ret
      exact ⟨rfl, fiveA_low s2.out⟩
    | true =>
      go_wp2_with fail
      go_region_held3 (fun W => (W.cell? ⟨w.heap.size, 0, none⟩ = some (.int .i64 i) ∧ W.cell? ⟨w.heap.size, 1, none⟩ = some (.int .i64 s) ∧ W.cell? ⟨w.heap.size, 2, none⟩ = some (.int .i64 c) ∧ W.cell? ⟨w.heap.size, 3, none⟩ = some (.int .i64 m) ∧ W.cell? ⟨w.heap.size, 4, none⟩ = some (.int .i64 e)) ∧ Below w.heap.size w W)
        ((first | exact fiveA_drew s2.out | assumption | exact fiveA_next (by assumption) hb5))
        ((first
          | (go_at_call 28; (with_reducible refine (hBk.out _ (fiveA_low (by assumption))).mono ?_); rintro e' w' ⟨rfl, hb5⟩)
          | (go_at_call 14; (with_reducible refine (hG.out _ (fiveA_low (by assumption))).mono ?_); rintro e' w' ⟨rfl, hb5⟩)))
      rename_i hh
      have hend := hidden (fiveA_low hh)
      have k3 := hh.1.2.2.2.1
      have cf := hcfx.out _ (fiveA_low hh)
      clear hh s2 hBk hG hcfx hb0
      by_cases hm1 : m = 1
      · have hm2 : (m != 1) = false := by simpa using hm1
        have hR := hidden (show R = min x 10000 by rw [hmin.out, if_pos hm1, Int.add_zero])
        clear hm1 hmin
        go_wp2
        all_goals
          go_ret
          exact ⟨ret_int (by have := hR.out; omega), hend.out⟩
      · have hm2 : (m != 1) = true := by simpa using hm1
        have hR := hidden (show R = min (x + fx) 10000 by rw [hmin.out, if_neg hm1])
        clear hm1 hmin
        go_wp2
        all_goals
          go_ret
          exact ⟨ret_int (by have := hR.out; omega), hend.out⟩
  · have hd : cutV T fx a t = 0 := if_neg hok
    rw [hd]
    rw [vC_no hok] at hV
    replace h := hidden h
    clear hd h3 h4 hE hEnd hok
    obtain ⟨i, s, c, m, e⟩ := a
    go_enter Tryd.func18, Tryd.ntmps18
    go_wp2_with fail
    refine (hV.out _ hb0.out).mono ?_
    rintro r w1 ⟨rfl, hb⟩
    have hb1 := hidden (hbw.out _ hb)
    clear hb hbw hcs hV
    have ef : errOf A 103 = errAt (A 2) := rfl
    rw [ef]
    clear ef
    go_wp2
    go_ret
    exact ⟨rfl, hb1.out⟩
end Go.Proofs.YthlepeeejmeahaaDoor
