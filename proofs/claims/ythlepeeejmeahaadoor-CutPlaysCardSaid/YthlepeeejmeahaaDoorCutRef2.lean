/-
  The document's Of.
-/
import Derived.Test.YthlepeeejmeahaaDoorCutRef
namespace Go.Proofs.YthlepeeejmeahaaDoor
open Go.RowKit Go.Maps
set_option linter.unusedVariables false

theorem rfV_small {e t : Int} (h1 : 0 ≤ e) (h2 : e ≤ 40000) (h3 : 0 ≤ t) (h4 : t ≤ 40000) : rfV e t = lfV e t := by
  unfold rfV lfV
  repeat' split
  all_goals omega
/-- the ways to the bucket: an end or none, cash or none. -/
theorem refBk_ways {a : As} (v : Int) (h : a.c = 1 → a.s = 0 ∧ a.e = 0) : ((a.e != 0) = false ∧ (a.c == 1) = true ∧ bkA a v = 0) ∨ ((a.e != 0) = false ∧ (a.c == 1) = false ∧ bkA a v = 5) ∨ ((a.e != 0) = true ∧ (a.c == 1) = false ∧ bkA a v = bkD v) := by
  unfold bkA
  by_cases h1 : a.c = 1
  · exact .inl ⟨by simpa using (h h1).2, by simpa using h1, if_pos h1⟩
  · by_cases h2 : a.e = 0
    · exact .inr (.inl ⟨by simpa using h2, by simpa using h1, by rw [if_neg h1, if_pos h2]⟩)
    · exact .inr (.inr ⟨by simpa using h2, by simpa using h1, by rw [if_neg h1, if_neg h2]⟩)
set_option maxHeartbeats 3200000 in
theorem refCutOf_any (w : World) (g : Nat) (T : StepT → Option Int) (fx : Int) (h : CutsAt w g T fx) (a : As) (t : Int) (hok : AsOk a) (h3 : 0 ≤ t) (h4 : t ≤ 40000) :
    Calls Tryd.prog 19 #[.pointer (some ⟨g, 0, none⟩), asA a, .int .i64 t] w fun e w' => e = .returned (.int .i64 (cutV T fx a t)) ∧ Below w.heap.size w w' := by
  have hbw := hidden (fun w' (h : Below (w.alloc (asO a)).heap.size (w.alloc (asO a)) w') => (below_as w a).trans (h.mono (below_as w a).size))
  have hcs := hidden (fun w' => as_cells w w' a)
  have hd : cutV T fx a t = if lfB a.e t = true then liveCut T fx a (lfV a.e t) else 10000 := if_pos hok
  rw [hd]
  have hbe : (0 : Int) ≤ a.e ∧ a.e ≤ 40000 := hok.1.2.2.2.2
  have hL := hidden (fun W => refLive_any a t W)
  have hLf := hidden (fun W => refLeft_any a.e t W (by omega) (by omega) (by omega) (by omega))
  rw [rfV_small hbe.1 hbe.2 h3 h4] at hLf
  have hBk := hidden (fun W => refBucket_any (lfV a.e t) W)
  have hG := hidden (fun W (hb : Below w.heap.size w W) => refGet_any W g T fx a.c (bkA a (lfV a.e t)) (h.below hb))
  have hgb := h.cut.get (a.c, bkA a (lfV a.e t))
  have hfx := h.fxOk
  unfold bpOk at hfx
  have hmin := hidden (liveCut_min T fx a (lfV a.e t) _ rfl)
  have hcfx := hidden (fun W (hb : Below w.heap.size w W) => (h.below hb).fxc)
  have hw := refBk_ways (lfV a.e t) hok.2
  generalize liveCut T fx a (lfV a.e t) = R at *
  generalize getT T (a.c, bkA a (lfV a.e t)) = x at *
  generalize bkA a (lfV a.e t) = bk at *
  generalize lfV a.e t = v at *
  generalize lfB a.e t = lf at *
  clear hd h h3 h4 hok
  obtain ⟨i, s, c, m, e⟩ := a
  replace hbe := hidden hbe
  cases lf with
  | false =>
    go_enter Tryd.func19, Tryd.ntmps19
    go_wp2_with fail
    refine (hL.out _).mono ?_
    rintro r w1 ⟨rfl, hb⟩
    have hb1 := hidden (hbw.out _ hb)
    clear hb hbw hcs
    go_wp2
    go_ret
    exact ⟨rfl, hb1.out⟩
  | true =>
    by_cases hm1 : m = 1
    · have hm2 : (m != 1) = false := by simpa using hm1
      have hR := hidden (show R = min x 10000 by rw [hmin.out, if_pos hm1, Int.add_zero])
      clear hm1 hmin
      rcases hw with ⟨t1, t2, rfl⟩ | ⟨t1, t2, rfl⟩ | ⟨t1, t2, rfl⟩
      all_goals
        go_enter Tryd.func19, Tryd.ntmps19
        go_wp2_with fail
        refine (hL.out _).mono ?_
        rintro r w1 ⟨rfl, hb⟩
        obtain ⟨_, _, k2, k3, k4⟩ := hcs.out _ hb
        have hb1 := hidden (hbw.out _ hb)
        have cf := hcfx.out _ hb1.out
        have hG1 := hidden (hG.out _ hb1.out)
        clear hb hbw hcs hL hcfx hG
        go_wp2_with (first
          | (go_at_call 30; (with_reducible refine (hLf.out _).mono ?_); rintro e' w' ⟨rfl, rfl⟩)
          | (go_at_call 31; (with_reducible refine (hBk.out _).mono ?_); rintro e' w' ⟨rfl, rfl⟩)
          | (go_at_call 15; refine hG1.out.mono ?_; rintro e' w' ⟨rfl, rfl⟩))
        all_goals
          go_ret
          exact ⟨ret_int (by have := hR.out; omega), hb1.out⟩
    · have hm2 : (m != 1) = true := by simpa using hm1
      have hR := hidden (show R = min (x + fx) 10000 by rw [hmin.out, if_neg hm1])
      clear hm1 hmin
      rcases hw with ⟨t1, t2, rfl⟩ | ⟨t1, t2, rfl⟩ | ⟨t1, t2, rfl⟩
      all_goals
        go_enter Tryd.func19, Tryd.ntmps19
        go_wp2_with fail
        refine (hL.out _).mono ?_
        rintro r w1 ⟨rfl, hb⟩
        obtain ⟨_, _, k2, k3, k4⟩ := hcs.out _ hb
        have hb1 := hidden (hbw.out _ hb)
        have cf := hcfx.out _ hb1.out
        have hG1 := hidden (hG.out _ hb1.out)
        clear hb hbw hcs hL hcfx hG
        go_wp2_with (first
          | (go_at_call 30; (with_reducible refine (hLf.out _).mono ?_); rintro e' w' ⟨rfl, rfl⟩)
          | (go_at_call 31; (with_reducible refine (hBk.out _).mono ?_); rintro e' w' ⟨rfl, rfl⟩)
          | (go_at_call 15; refine hG1.out.mono ?_; rintro e' w' ⟨rfl, rfl⟩))
        all_goals
          go_ret
          exact ⟨ret_int (by have := hR.out; omega), hb1.out⟩
end Go.Proofs.YthlepeeejmeahaaDoor
