import Derived.Test.YtghkmagofadkfaaDoorCapsRight
import Derived.Test.YtghkmagofadkfaaDoorCapsDo
import Derived.Test.YtghkmagofadkfaaDoorCapsMath3
import Derived.Test.YtghkmagofadkfaaDoorLaidOn
namespace Go.Proofs.YtghkmagofadkfaaDoor
open Go.RowKit
set_option linter.unusedVariables false

theorem tot_take (l : List Ln) (k : Nat) (h : k < l.length) : totL (l.take (k + 1)) = totL (l.take k) + (l.getD k lnZ).v := by
  rw [take_snocL l k h, totL_app]
  simp [totL]
theorem tot_part {l : List Ln} (h : ∀ x ∈ l, lnOk x) (d : Int) : totL (l.filter fun x => x.c == d) ≤ totL l := by
  induction l with
  | nil => exact Int.le_refl 0
  | cons x l ih =>
    have := ih (fun y hy => h y (List.mem_cons_of_mem _ hy))
    have := (h x List.mem_cons_self).2.2.2.1
    by_cases q : x.c = d
    · rw [List.filter_cons_of_pos (by simpa using q)]
      simp only [totL]
      omega
    · rw [List.filter_cons_of_neg (by simpa using q)]
      simp only [totL]
      omega
theorem tot_take_le {l : List Ln} (h : ∀ x ∈ l, lnOk x) (k : Nat) : 0 ≤ totL (l.take k) ∧ totL (l.take k) ≤ totL l := by
  have e : totL l = totL (l.take k) + totL (l.drop k) := by rw [← totL_app, List.take_append_drop]
  have h1 := totL_nn (l := l.take k) (fun x hx => h x (List.mem_of_mem_take hx))
  have h2 := totL_nn (l := l.drop k) (fun x hx => h x (List.mem_of_mem_drop hx))
  omega
theorem filter_snocL (l : List Ln) (d : Int) (k : Nat) (h : k < l.length) : (l.take (k + 1)).filter (fun x => x.c == d) = (l.take k).filter (fun x => x.c == d) ++ (if (l.getD k lnZ).c = d then [l.getD k lnZ] else []) := by
  rw [take_snocL l k h, List.filter_append]
  congr 1
  by_cases q : (l.getD k lnZ).c = d
  · rw [if_pos q, List.filter_cons_of_pos (by simpa using q)]; rfl
  · rw [if_neg q, List.filter_cons_of_neg (by simpa using q)]; rfl
def MoRel2 (M : List Ln) (w0 : World) (s i : Value) (w : World) : Prop := ∃ k : Nat, k ≤ M.length ∧ i = .int .i64 (k : Int) ∧ s = .int .i64 (totL (M.take k)) ∧ w0 = w
def MoRel3 (T : CTab) (M : List Ln) (w0 : World) (s c : Value) (w : World) : Prop := ∃ j : Nat, j ≤ 6 ∧ c = .int .i64 ((j : Int) + 1) ∧ s = .int .i64 (sumN (f1 T M) j) ∧ Below w0.heap.size w0 w
def MoRel4 (M : List Ln) (c : Int) (w0 : World) (v i : Value) (w : World) : Prop := ∃ k : Nat, k ≤ M.length ∧ i = .int .i64 (k : Int) ∧ OwnLn w0.heap.size w v ((M.take k).filter fun x => x.c == c) ∧ Below w0.heap.size w0 w
def MoRel1 (l : List CpDo) (g g2 : Nat) (w0 : World) (i : Value) (w : World) : Prop :=
  ∃ k : Nat, k ≤ l.length ∧ i = .int .i64 (k : Int) ∧ CpAt w w0.heap.size g k (capT (l.take k)) ∧ w.heap[g2]? = some (.cells #[.map none] 29 (0, 0)) ∧ Below w0.heap.size w0 w
set_option maxRecDepth 100000 in
set_option maxHeartbeats 12800000 in
theorem walk_capsMost (v : Value) (l : List CpDo) (u : Value) (m : List Ln) (A : Nat → Addr) (w : World) (hr : Row cpDoV 3 w v l) (hl : ∀ z ∈ l, CpDoBig z) (hrm : Row lnV 4 w u m) (hm : ∀ z ∈ m, lnIn z) (hS : SentsOn [2, 3] w A) :
    Calls Tryd.prog 5 #[v, u] w fun r w' => r = .returned (.bool true) ∧ Below w.heap.size w w' := by
  obtain ⟨va, vc, rfl⟩ := row_slice hr
  obtain ⟨ua, uc, rfl⟩ := row_slice hrm
  have hE := hidden hS.on
  have hF := hidden (law16_first A w hS.on)
  have hways : (20 : Int) < (l.length : Int) ∨ (¬ (20 : Int) < (l.length : Int) ∧ (20 : Int) < (m.length : Int)) ∨ (¬ (20 : Int) < (l.length : Int) ∧ ¬ (20 : Int) < (m.length : Int) ∧ m.length = 0) ∨ (l.length ≤ 20 ∧ m.length ≤ 20 ∧ 1 ≤ m.length) := by omega
  rcases hways with t1 | ⟨t1, t2⟩ | ⟨t1, t2, t3⟩ | ⟨t1, t2, t3⟩
  iterate 3
    · clear hr hl hrm hm hS hE
      go_enter Tryd.func5, Tryd.ntmps5
      go_wp2_with fail
      refine hF.out.mono ?_
      rintro r w1 ⟨rfl, hb⟩
      replace hb := hidden hb
      go_wp2
      go_ret
      exact ⟨rfl, hb.out⟩
  · have g1 : ¬ (20 : Int) < (l.length : Int) := by omega
    have g2 : ¬ (20 : Int) < (m.length : Int) := by omega
    have g3 : ((m.length : Int) == 0) = false := by rw [beq_eq_false_iff_ne]; omega
    have hx := hidden (fun k hk W (h2 : Below w.heap.size w W) => rowC_at (hr.below cpDoV_len h2 (Nat.le_refl _)) k hk)
    have hbig := hidden hl
    have hri := hidden (fun W (h2 : Below w.heap.size w W) => right_any W _ m (hrm.below lnV_len h2 (Nat.le_refl _)) (by omega) hm)
    clear hr hl hrm hm hS
    go_enter Tryd.func5, Tryd.ntmps5
    go_wp2_with fail
    refine hF.out.mono ?_
    rintro r w1 ⟨rfl, hb⟩
    obtain ⟨hn1, hbn⟩ := lnew16 hb
    have hnone := hidden (show ((w1.alloc (.cells #[.map none] 29)).alloc (.cells #[.map none] 29)).heap[w1.heap.size + 1]? = some (.cells #[.map none] 29 (0, 0)) by
      have := heap_alloc_new (w1.alloc (.cells #[.map none] 29)) (.cells #[.map none] 29)
      simpa only [World.size_alloc] using this)
    have hn := hidden (hn1.below ((Below.refl _ _).alloc (Nat.le_refl _) (.cells #[.map none] 29)) (Nat.le_refl _))
    have hb2 := hidden (hbn.alloc hbn.size (.cells #[.map none] 29))
    have hw1 := hidden hb.size
    clear hb hF hn1 hbn
    go_wp2_with fail
    go_loopw [8] (fun i wr => MoRel1 l w1.heap.size (w1.heap.size + 1) w i wr) (fun i _ => l.length - (RowKit.intOf i).toNat)
    case atStart => exact ⟨0, Nat.zero_le _, rfl, hn.out, hnone.out, hb2.out⟩
    case round =>
      clear hn hnone hb2
      obtain ⟨k, hk, rfl, hL, hno, hb⟩ := hrel
      by_cases hlt : k < l.length
      · obtain ⟨b, o, rfl, _⟩ := hx.out k hlt _ hb
        have hq := hidden (fun W (h2 : Below w.heap.size w W) => show ThreeAt W b (o + k * 3) (l.getD k cpZ) by
          obtain ⟨b', o', e, q⟩ := hx.out k hlt _ h2
          simp only [Option.some.injEq, Addr.mk.injEq, and_true] at e
          obtain ⟨rfl, rfl⟩ := e
          exact q)
        have hlI : (k : Int) < (l.length : Int) := by omega
        have htk := hidden (capT_snoc l k hlt)
        generalize l.getD k cpZ = e at *
        obtain ⟨c, d, x⟩ := e
        have hq' := hidden (fun W (h : Below w.heap.size w W) => show DoCS w b (o + k * 3) c d x W from ⟨hq.out W h, h⟩)
        have hk6 : k < 1000000 := by omega
        have hSet := hidden (fun W (hb : Below w.heap.size w W) (hL : CpAt W w.heap.size w1.heap.size k (capT (l.take k))) => lset16 (W := W) hb hL hk6 hE.out (c, d) x)
        have hs0 := hidden (hq'.out _ hb.drew)
        have hL' := hidden (hL.same (w' := wr.drew) fun _ _ => rfl)
        have hno' := hidden (show wr.drew.heap[w1.heap.size + 1]? = _ from hno)
        clear hq hx hL hno hb
        go_wp2_with fail
        first | (go_region_held3 (fun W => (W.cell? ⟨b, o + k * 3, none⟩ = some (.int .i64 c) ∧ W.cell? ⟨b, o + k * 3 + 1, none⟩ = some (.int .i64 d) ∧ W.cell? ⟨b, o + k * 3 + 2, none⟩ = some (.int .i64 x)) ∧ Below w.heap.size w W)
          ((first | exact hs0.out | assumption | exact hq'.out _ hb5))
          ((go_at_call 11; (with_reducible refine (hSet.out _ hs0.out.2 hL'.out).mono ?_); rintro e' w' ⟨rfl, hL5, hb5, hk5⟩))) | fail
        have hno5 := hidden (hk5 _ _ _ _ (by omega) hno'.out)
        replace hL5 := hidden hL5
        replace hb5 := hidden hb5
        clear hk5 hs0 hL' hno' hSet hq'
        go_wp2
        go_roundw
        case rel => exact ⟨k + 1, hlt, by go_num, by rw [htk.out]; exact hL5.out, hno5.out, hb5.out⟩
        case measure => simp [RowKit.intOf]; omega
      · obtain rfl : k = l.length := by omega
        rw [List.take_length] at hL
        have hRi := hidden (hri.out _ hb)
        replace hL := hidden hL
        replace hno := hidden hno
        replace hb := hidden hb
        clear hx hri hbig
        generalize capT l = T at *
        go_wp2_with fail
        (with_reducible refine hRi.out.mono ?_)
        rintro r w5 ⟨mv, rfl, hown, hb5⟩
        have hrow := hown.row lnV_len
        have hMok := rgt_all m
        have hMt : totL (m.map rgt) ≤ 19999980 := by have := rgt_tot m; omega
        have hMl : (m.map rgt).length = m.length := List.length_map _
        clear hRi hown
        generalize m.map rgt = M at *
        have hM20 : M.length ≤ 20 := by omega
        have hM1 : 1 ≤ M.length := by omega
        obtain ⟨ma, mc, rfl⟩ := row_slice hrow
        obtain ⟨_, hmc, hmm, _⟩ := row_cap hrow
        have hL5 := hidden (hL.out.below hb5 (Nat.le_refl _))
        have hno5 := hidden ((hb5.block _ (Array.getElem?_eq_some_iff.1 hno.out).1).trans hno.out)
        replace hb5 := hidden (hb.out.trans (hb5.mono hb.out.size))
        replace hrow := hidden hrow
        obtain ⟨mb, mo, rfl, _⟩ := rowL_at hrow.out 0 hM1
        have hxM := hidden (fun k hk => rowL_at hrow.out k hk)
        replace hMok := hidden hMok
        have hMtH := hidden hMt
        clear hL hno hb hMl t1 t2 t3 g3
        go_wp2_with fail
        go_loopw [10, 11] (fun s i wr => MoRel2 M w5 s i wr) (fun _ i _ => M.length - (RowKit.intOf i).toNat)
        case atStart => exact ⟨0, Nat.zero_le _, rfl, rfl, rfl⟩
        case round =>
          obtain ⟨k, hk, rfl, rfl, rfl⟩ := hrel
          by_cases hlt : k < M.length
          · obtain ⟨b, o, eb, q0, q1, q2, q3⟩ := hxM.out k hlt
            simp only [Option.some.injEq, Addr.mk.injEq, and_true] at eb
            obtain ⟨rfl, rfl⟩ := eb
            have hlI : (k : Int) < (M.length : Int) := by omega
            have hx := (hMok.out _ (getL_mem hlt)).2.2.2
            have htk := hidden (tot_take M k hlt)
            have hb1 := tot_take_le hMok.out k
            generalize M.getD k lnZ = x at *
            obtain ⟨c, d, i, y⟩ := x
            generalize totL (M.take k) = s at *
            simp only at q0 q1 q2 q3 hx
            clear q0 q1 q2
            go_wp2
            go_roundw
            case rel => exact ⟨k + 1, hlt, by go_num, by rw [htk.out], rfl⟩
            case measure => simp [RowKit.intOf]; omega
          · obtain rfl : k = M.length := by omega
            rw [List.take_length]
            have hAll := hMok.out
            have y0 := s4_le (T := T) hAll
            have y4 := s4_nn (T := T) (l := M.drop 1) (fun x hx => hAll x (List.mem_of_mem_drop hx))
            have y5 := totL_nn hAll
            obtain ⟨y1, y2⟩ : s4 T (M.drop 1) ≤ s4 T M ∧ s4 T M ≤ s4 T (M.drop 1) + (M.getD 0 lnZ).v := by
              cases M with
              | nil => simp at hM1
              | cons X R => exact s4_more T R X (hAll X List.mem_cons_self)
            have hXv := (hAll _ (getL_mem hM1)).2.2.2
            have htR : totL (M.drop 1) ≤ 1000000000000000 := by
              cases M with
              | nil => simp at hM1
              | cons X R =>
                have := (hAll X List.mem_cons_self).2.2.2.1
                simp only [totL] at hMt
                show totL R ≤ _
                omega
            have hS1 := lsum16 hb5.out hL5.out hE.out hrow.out (by omega) hAll (by omega)
            obtain ⟨a, ha⟩ : ∃ a, s4 T M = a := ⟨_, rfl⟩
            obtain ⟨b, hbq⟩ : ∃ b, s4 T (M.drop 1) = b := ⟨_, rfl⟩
            rw [ha] at hS1 y0 y1 y2
            rw [hbq] at y1 y2 y4
            replace hS1 := hidden hS1
            replace ha := hidden ha
            replace hbq := hidden hbq
            replace htR := hidden htR
            generalize hs : totL M = s at *
            replace hs := hidden hs
            clear hL5 hb5
            go_wp2_with fail
            (with_reducible refine hS1.out.mono ?_)
            rintro r w6 ⟨rfl, hL6, hb6, hb6'⟩
            have hrow6 := hidden (hrow.out.below lnV_len hb6' (Nat.le_refl _))
            have hno6 := hidden ((hb6'.block _ (Array.getElem?_eq_some_iff.1 hno5.out).1).trans hno5.out)
            replace hL6 := hidden hL6
            replace hb6 := hidden hb6
            clear hS1 hb6' hrow hno5 hxM
            have hCa := hidden hL6.out.ho
            have hways : (mc = 1 ∧ Row lnV 4 w6 (.slice (some ⟨mb, mo, none⟩) 0 0) (M.drop 1)) ∨ (¬ mc = 1 ∧ Row lnV 4 w6 (.slice (some ⟨mb, mo + 4, none⟩) (M.length - 1) (mc - 1)) (M.drop 1)) := by
              by_cases hc1 : mc = 1
              · subst hc1
                have h := (row_from lnV_len hrow6.out hM1).1 rfl
                rw [show M.length - 1 = 0 by omega] at h
                exact .inl ⟨rfl, h⟩
              · exact .inr ⟨hc1, (row_from lnV_len hrow6.out hM1).2 _ rfl⟩
            rcases hways with ⟨rfl, hrD⟩ | ⟨hc1, hrD⟩
            all_goals
              have hS2 := lsum16 hb6.out hL6.out hE.out hrD (by rw [List.length_drop]; omega) (fun x hx => hMok.out x (List.mem_of_mem_drop hx)) htR.out
              rw [hbq.out] at hS2
              replace hS2 := hidden hS2
              clear hL6 hb6 hrD
              go_wp2_with fail
              (with_reducible refine hS2.out.mono ?_)
              rintro r w7 ⟨rfl, hL7, hb7, hb7'⟩
              have hrow7 := hidden (hrow6.out.below lnV_len hb7' (Nat.le_refl _))
              have hno7 := (hb7'.block _ (Array.getElem?_eq_some_iff.1 hno6.out).1).trans hno6.out
              have hS3 := lsum16 hb7 (cpAt_none (by have := hw1.out; omega) hno7) hE.out hrow7.out (by omega) hMok.out (by rw [hs.out]; omega)
              rw [s4_free hMok.out (fun i => rfl) (fun i => rfl) (fun i => rfl), hs.out] at hS3
              replace hS3 := hidden hS3
              replace hL7 := hidden hL7
              clear hS2 hb7 hb7' hrow6 hno6 hno7
              go_wp2_with fail
              (with_reducible refine hS3.out.mono ?_)
              rintro r w8 ⟨rfl, _, hb8, hb8'⟩
              have hrow8 := hidden (hrow7.out.below lnV_len hb8' (Nat.le_refl _))
              have hL8 := hidden (hL7.out.below hb8' (Nat.le_refl _))
              obtain ⟨b', o', eb, _, _, _, c3⟩ := rowL_at hrow8.out 0 hM1
              simp only [Option.some.injEq, Addr.mk.injEq, and_true] at eb
              obtain ⟨rfl, rfl⟩ := eb
              rw [Nat.zero_mul, Nat.add_zero] at c3
              replace hb8 := hidden hb8
              clear hS3 hb8' hrow7 hL7
              generalize (M.getD 0 lnZ).v = y at *
              go_wp2_with fail
              go_loopw [18, 19] (fun s c wr => MoRel3 T M w8 s c wr) (fun _ c _ => 7 - (RowKit.intOf c).toNat)
              case atStart => exact ⟨0, by omega, rfl, rfl, Below.refl _ _⟩
              case round =>
                obtain ⟨j, hj, rfl, rfl, hb9⟩ := hrel
                clear c3
                by_cases hj6 : j < 6
                · have hjI : (j : Int) + 1 ≤ 6 := by omega
                  have hd : 1 ≤ (j : Int) + 1 ∧ (j : Int) + 1 ≤ 6 := by omega
                  have hB9 := hidden hb9.size
                  replace hb9 := hidden hb9
                  go_wp2_with fail
                  go_loopw [20, 21] (fun v i wr => MoRel4 M ((j : Int) + 1) w8 v i wr) (fun _ i _ => M.length - (RowKit.intOf i).toNat)
                  case atStart => exact ⟨0, Nat.zero_le _, rfl, OwnR.nil _ _ _, hb9.out⟩
                  case round =>
                    clear hb9 hB9
                    obtain ⟨k, hk, rfl, hown, hb⟩ := hrel
                    by_cases hlt : k < M.length
                    · obtain ⟨b', o', eb, q0, q1, q2, q3⟩ := rowL_at (hrow8.out.below lnV_len hb (Nat.le_refl _)) k hlt
                      simp only [Option.some.injEq, Addr.mk.injEq, and_true] at eb
                      obtain ⟨rfl, rfl⟩ := eb
                      have hlI : (k : Int) < (M.length : Int) := by omega
                      have hfs := hidden (filter_snocL M ((j : Int) + 1) k hlt)
                      have hlk := hidden (show ((M.take k).filter fun x => x.c == (j : Int) + 1).length ≤ 1000000 by
                        have := List.length_filter_le (fun x : Ln => x.c == (j : Int) + 1) (M.take k)
                        rw [List.length_take] at this
                        omega)
                      generalize M.getD k lnZ = e at *
                      obtain ⟨ec, em, ei, ev⟩ := e
                      simp only at q0 q1 q2 q3
                      generalize hPd : ((M.take k).filter fun x => x.c == (j : Int) + 1) = Pd at *
                      replace hPd := hidden hPd
                      have hBr := hidden hb.size
                      replace hown := hidden hown
                      replace hb := hidden hb
                      by_cases hce : ec = (j : Int) + 1
                      · subst hce
                        go_wp2_with (at_builtin; refine wpList_appR1 rfl _ _ 23 rfl lnV_len lnV_one (by decide) 58 Tryd.underlying23 infoLn rfl (by decide) w8.heap.size _ Pd rfl hown.out ⟨(j : Int) + 1, em, ei, ev⟩ _ rfl _ rfl (by simp) hlk.out hBr.out ?_)
                        intro v2 w4 hown2 hb4
                        replace hown2 := hidden hown2
                        replace hb4 := hidden (hb.out.trans hb4)
                        go_wp2
                        go_roundw
                        case rel => exact ⟨k + 1, hlt, by go_num, by rw [hfs.out]; simpa using hown2.out, hb4.out⟩
                        case measure => simp [RowKit.intOf]; omega
                      · have hcb : (ec == (j : Int) + 1) = false := by simpa using hce
                        replace hce := hidden hce
                        go_wp2
                        go_roundw
                        case rel => exact ⟨k + 1, hlt, by go_num, by rw [hfs.out, if_neg hce.out, List.append_nil]; exact hown.out, hb.out⟩
                        case measure => simp [RowKit.intOf]; omega
                    · obtain rfl : k = M.length := by omega
                      rw [List.take_length] at hown
                      have hbW := hb8.out.trans (hb.mono hb8.out.size)
                      have hLr := hL8.out.below hb (Nat.le_refl _)
                      have hS5 := lsum16 hbW hLr hE.out (hown.row lnV_len) (by have := List.length_filter_le (fun x : Ln => x.c == (j : Int) + 1) M; omega) (fun x hx => hMok.out x ((List.mem_filter.1 hx).1)) (by have := tot_part hMok.out ((j : Int) + 1); rw [hs.out] at this; omega)
                      rw [s4_part hCa.out M hd] at hS5
                      have hcp0 : 0 ≤ capN (s3 T M ((j : Int) + 1)) (getC T (1, (j : Int) + 1)) := capN_nn _ (s3_nn hMok.out _)
                      have hcp : 0 < getC T (1, (j : Int) + 1) → capN (s3 T M ((j : Int) + 1)) (getC T (1, (j : Int) + 1)) ≤ getC T (1, (j : Int) + 1) := fun h => capN_most h
                      have hlm := (hCa.out.get (1, (j : Int) + 1)).1
                      have hG := hidden (fun W hb hL => lget16 (T := T) (W := W) (w0 := w) (g := w1.heap.size) (n := l.length) hb hL (1, (j : Int) + 1) (by unfold lmIn; simp only; omega))
                      have hsj := hidden (show sumN (f1 T M) (j + 1) = sumN (f1 T M) j + capN (s3 T M ((j : Int) + 1)) (getC T (1, (j : Int) + 1)) from rfl)
                      have hs0 : 0 ≤ sumN (f1 T M) j := sumN_nn fun q _ => f1_nn hMok.out q
                      have hs1 : sumN (f1 T M) (j + 1) ≤ a := by
                        rw [← ha.out]
                        exact sumN_mono (f1_nn hMok.out) (by omega)
                      rw [hsj.out] at hs1
                      obtain ⟨pa, pc, eP⟩ := row_slice (hown.row lnV_len)
                      generalize ((M.filter fun x => x.c == (j : Int) + 1).length) = pn at *
                      subst eP
                      generalize capN (s3 T M ((j : Int) + 1)) (getC T (1, (j : Int) + 1)) = nn at *
                      generalize getC T (1, (j : Int) + 1) = lim at *
                      generalize sumN (f1 T M) j = sj at *
                      replace hS5 := hidden hS5
                      replace hown := hidden hown
                      replace hb := hidden hb
                      clear hLr hbW
                      go_wp2_with fail
                      (with_reducible refine hS5.out.mono ?_)
                      rintro r w10 ⟨rfl, hL10, hb10, hb10'⟩
                      have hG1 := hidden (hG.out _ hb10 hL10)
                      have hb11 := hidden (hb.out.trans (hb10'.mono hb.out.size))
                      clear hS5 hL10 hb10 hb10' hG hown hb
                      go_wp2_with fail
                      (with_reducible refine hG1.out.mono ?_)
                      rintro r w11 ⟨rfl, _, _, hb12⟩
                      have hb13 := hidden (hb11.out.trans (hb12.mono hb11.out.size))
                      clear hG1 hb11 hb12
                      by_cases hl0 : 0 < lim
                      · have hcl := hcp hl0
                        have zl : decide (0 < lim) = true := decide_eq_true hl0
                        have zn : decide (lim < nn) = false := decide_eq_false (by omega)
                        clear hcp
                        go_wp2
                        go_roundw
                        case rel => exact ⟨j + 1, by omega, by go_num, by rw [hsj.out], hb13.out⟩
                        case measure => simp [RowKit.intOf]; omega
                      · have zl : decide (0 < lim) = false := decide_eq_false hl0
                        clear hcp
                        go_wp2
                        go_roundw
                        case rel => exact ⟨j + 1, by omega, by go_num, by rw [hsj.out], hb13.out⟩
                        case measure => simp [RowKit.intOf]; omega
                · obtain rfl : j = 6 := by omega
                  rw [show sumN (f1 T M) 6 = a from ha.out]
                  have hb13 := hidden (hb8.out.trans (hb9.mono hb8.out.size))
                  clear hb9
                  go_wp2
                  go_ret
                  exact ⟨rfl, hb13.out⟩
end Go.Proofs.YtghkmagofadkfaaDoor
