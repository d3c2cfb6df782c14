import Derived.Test.YtefjemkpbkikbaaDoorNeed2
import Derived.Test.YtefjemkpbkikbaaDoorTake
import Derived.Deep.DeepCutAuto
namespace Go.Proofs.YtefjemkpbkikbaaDoor
open Go.RowKit
set_option linter.unusedVariables false

/-- where the worst is; -1: nowhere. -/
def atV (q : Nat) (x : Int) : Int := if 0 < x then (q : Int) else -1
def goodTo (l : List Nd) (k : Nat) : Prop := ∀ j, j < k → ndOk (l.getD j ndZ)
theorem goodTo_next {l : List Nd} {k : Nat} : goodTo l (k + 1) ↔ goodTo l k ∧ ndOk (l.getD k ndZ) := by
  constructor
  · intro h
    exact ⟨fun j hj => h j (by omega), h k (by omega)⟩
  · rintro ⟨h1, h2⟩ j hj
    by_cases e : j = k
    · subst e; exact h2
    · exact h1 j (by omega)
theorem goodTo_all {l : List Nd} : goodTo l l.length ↔ ∀ x ∈ l, ndOk x :=
  ⟨fun h => getN_all h, fun h j hj => h _ (getN_mem hj)⟩
abbrev NyS (g : Nat) (n h : Int) (w : World) (W : World) : Prop := (W.cell? ⟨g, 0, none⟩ = some (.int .i64 n) ∧ W.cell? ⟨g, 1, none⟩ = some (.int .i64 h)) ∧ Below w.heap.size w W
def NyRel (l : List Nd) (w0 : World) (a m s gd i : Value) (w : World) : Prop :=
  ∃ (k q : Nat) (x : Int) (b : Bool), k ≤ l.length ∧ i = .int .i64 (k : Int) ∧ a = .int .i64 (atV q x) ∧ m = .int .i64 x ∧ s = .int .i64 (sumS (l.take k)) ∧ gd = .bool b ∧ (b = true ↔ goodTo l k) ∧ WsAt l k q x ∧ Below w0.heap.size w0 w
set_option maxRecDepth 100000 in
set_option maxHeartbeats 12800000 in
theorem walk_needSays (v : Value) (l : List Nd) (A : Nat → Addr) (w : World) (hr : Row ndV 2 w v l) (hl : ∀ z ∈ l, ndBig z) (hS : Sents w A) :
    Calls Tryd.prog 3 #[v] w fun r w' => r = .returned (.bool true) ∧ Below w.heap.size w w' := by
  obtain ⟨va, vc, rfl⟩ := row_slice hr
  have hE2 := hidden (hS.on [2] (by decide))
  have hE := hidden (hS.on [2, 3] (by decide))
  have hF := hidden (law17_first A w hE2.out)
  have hI := hidden (fun k (hk : codeOk k) d W (h : Below w.heap.size w W) => is_any A k d W (hS.below h (Nat.le_refl _)) hk)
  have hx := hidden (fun k hk W (h2 : Below w.heap.size w W) => rowN_at (hr.below ndV_len h2 (Nat.le_refl _)) k hk)
  have hSh := hidden (fun s W (h2 : Below w.heap.size w W) => short_any A s W (hE2.out.below h2 (Nat.le_refl _)))
  have hSp := hidden (fun s W (h2 : Below w.heap.size w W) => spare_any A s W (hE2.out.below h2 (Nat.le_refl _)))
  have hBo := hidden (fun s W (h2 : Below w.heap.size w W) => bound_any A s W (hE2.out.below h2 (Nat.le_refl _)))
  have hVa := hidden (fun s W (h2 : Below w.heap.size w W) => ndValid_any A s W (hE2.out.below h2 (Nat.le_refl _)))
  by_cases t1 : (40 : Int) < (l.length : Int)
  · clear hx hSh hSp hBo hVa hr hl hS hE hI
    go_enter Tryd.func3, Tryd.ntmps3
    go_wp2_with fail
    refine hF.out.mono ?_
    rintro r w1 ⟨rfl, hb⟩
    replace hb := hidden hb
    go_wp2
    go_ret
    exact ⟨rfl, hb.out⟩
  · have hWo := hidden (fun W (h2 : Below w.heap.size w W) => worst_any A W _ l (hr.below ndV_len h2 (Nat.le_refl _)) (by omega) (hE2.out.below h2 (Nat.le_refl _)))
    have hTo := hidden (fun W (h2 : Below w.heap.size w W) => needTotal_any A W _ l (hr.below ndV_len h2 (Nat.le_refl _)) (by omega) (hE.out.below h2 (Nat.le_refl _)))
    replace hl := hidden hl
    clear hr hS
    go_enter Tryd.func3, Tryd.ntmps3
    go_wp2_with fail
    refine hF.out.mono ?_
    rintro r w1 ⟨rfl, hb⟩
    replace hb := hidden hb
    clear hF
    go_wp2_with fail
    go_loopw [4, 5, 6, 7, 8] (fun a m s gd i wr => NyRel l w a m s gd i wr) (fun _ _ _ _ i _ => l.length - (RowKit.intOf i).toNat)
    case atStart => exact ⟨0, 0, 0, true, Nat.zero_le _, rfl, rfl, rfl, rfl, rfl, ⟨fun _ j hj => by omega, fun _ => rfl⟩, wsAt_nil l, hb.out⟩
    case round =>
      clear hb
      obtain ⟨k, q, x, gb, hk, rfl, rfl, rfl, rfl, rfl, hgb, hws, hb⟩ := hrel
      by_cases hlt : k < l.length
      · obtain ⟨b, o, rfl, q0, q1⟩ := hx.out k hlt _ hb
        have hlI : (k : Int) < (l.length : Int) := by omega
        obtain ⟨hbg1, hbg2⟩ := hl.out _ (getN_mem hlt)
        have hN := hidden (fun h => wsAt_new hws h)
        have hO := hidden (fun h => wsAt_old hws h)
        have hx0 := hws.1
        have hsk := hidden (sumS_take l k hlt)
        have hsb := sumS_bd l k hk
        have hgn := hidden (goodTo_next (l := l) (k := k))
        generalize l.getD k ndZ = e at *
        have hlv := hidden (lawValid_any e (wr.alloc (ndO e)))
        have hbn := hidden (hb.trans ((below_nd wr e).mono hb.size))
        have hcell := hidden (heap_alloc_new wr (ndO e))
        have hS1 := hidden (hSh.out e)
        have hS2 := hidden (hSp.out e)
        have hS3 := hidden (hBo.out e)
        have hS4 := hidden (hVa.out e)
        generalize hSS : sumS (l.take k) = S at *
        generalize hAA : atV q x = aq at *
        replace hAA := hidden hAA
        replace hSS := hidden hSS
        replace hws := hidden hws
        replace hb := hidden hb
        replace hgb := hidden hgb
        have hsz : wr.heap.size < (wr.alloc (ndO e)).heap.size := by simp
        have hC := hidden (fun W (h2 : Below (wr.alloc (ndO e)).heap.size (wr.alloc (ndO e)) W) => show NyS wr.heap.size e.n e.h (wr.alloc (ndO e)) W from by
          have hrow := (h2.block wr.heap.size hsz).trans hcell.out
          exact ⟨⟨by rw [cell_of_row _ _ _ _ _ _ hrow]; rfl, by rw [cell_of_row _ _ _ _ _ _ hrow]; rfl⟩, h2⟩)
        clear hcell hsz hSh hSp hBo hVa hx hl hWo hTo
        by_cases hok : ndOk e
        · rw [decide_eq_true hok] at hlv
          have hc0 : ndC e = 0 := if_pos hok
          rw [hc0, errOf_fine] at hS4
          have hsv := shV_ok hok
          have hpv := spV_ok hok
          have hyb := shV_bd e
          have hok1 := hok
          unfold ndOk at hok1
          have hrs := hidden (fun W => refShort_any e.n e.h W (by omega))
          rw [← hsv] at hrs
          generalize shV e = y at *
          generalize spV e = z at *
          obtain ⟨n, h⟩ := e
          simp only at q0 q1 hsv hpv hok1
          obtain ⟨d, hd⟩ : ∃ d, h - n = d := ⟨_, rfl⟩
          have hB : ((y != 0) = true ∧ decide (0 < y) = true ∧ d ≤ 0 ∧ z = 0) ∨ ((y != 0) = false ∧ decide (0 < y) = false ∧ d ≤ 0 ∧ z = 0) ∨ ((y != 0) = false ∧ decide (0 < y) = false ∧ ¬ d ≤ 0 ∧ z = d) := by
            simp only [bne_iff_ne, bne_eq_false_iff_eq, decide_eq_true_iff, decide_eq_false_iff_not]
            omega
          have hxd : ∀ a, x < a ∨ ¬ x < a := fun a => by omega
          generalize (y != 0) = B at *
          have hwd : IntKind.i64.wrap (h - n) = d := by rw [IntKind.wrap_i64]; omega
          have hws2 : IntKind.i64.wrap (S + y) = S + y := by rw [IntKind.wrap_i64]; omega
          go_wp2_with fail
          (with_reducible refine hlv.out.mono ?_)
          rintro r w2 ⟨rfl, hb2⟩
          obtain ⟨⟨c0, c1⟩, _⟩ := hC.out _ hb2
          have hv2 := hidden (hS4.out _ (hbn.out.trans (hb2.mono hbn.out.size)))
          replace hb2 := hidden hb2
          clear hlv
          have hgF := hidden (show gb = true ↔ goodTo l (k + 1) from hgb.out.trans ⟨fun h => hgn.out.2 ⟨h, hok⟩, fun h => (hgn.out.1 h).1⟩)
          have hat := hidden (fun hxy : x < y => show atV k y = (k : Int) from if_pos (by omega))
          clear hgb hgn hok hok1
          rcases hB with ⟨rfl, b1, b2, rfl⟩ | ⟨rfl, b1, b2, rfl⟩ | ⟨rfl, b1, b2, rfl⟩
          all_goals
            cases gb
          all_goals
            go_wp2_with fail
            (with_reducible refine hv2.out.mono ?_)
            rintro r w3 ⟨rfl, hb3⟩
            replace hb3 := hidden (hb2.out.trans (hb3.mono hb2.out.size))
            obtain ⟨⟨c0, c1⟩, _⟩ := hC.out _ hb3.out
            have hrs3 := hidden (hrs.out w3)
            clear hv2 hb2 hrs
            go_wp2_with fail
            (with_reducible refine hrs3.out.mono ?_)
            rintro r w4 ⟨rfl, rfl⟩
            have hs0 := hidden (hC.out _ hb3.out.drew)
            clear hrs3 hd hsv hpv
            go_wp2_with fail
            first | (go_region_held3 (fun W => (W.cell? ⟨wr.heap.size, 0, none⟩ = some (.int .i64 n) ∧ W.cell? ⟨wr.heap.size, 1, none⟩ = some (.int .i64 h)) ∧ Below (wr.alloc (ndO ⟨n, h⟩)).heap.size (wr.alloc (ndO ⟨n, h⟩)) W)
              ((first | exact hs0.out | assumption | exact hC.out _ (Below.trans (And.right (by assumption)) (hb7.mono (Below.size (And.right (by assumption)))))))
              ((first
                | (go_at_call 11; (with_reducible refine (hS1.out _ (hbn.out.trans (Below.mono (And.right (by assumption)) hbn.out.size))).mono ?_); rintro r wC ⟨rfl, hb7⟩)
                | (go_at_call 12; (with_reducible refine (hS3.out _ (hbn.out.trans (Below.mono (And.right (by assumption)) hbn.out.size))).mono ?_); rintro r wC ⟨rfl, hb7⟩)
                | (go_at_call 13; (with_reducible refine (hS2.out _ (hbn.out.trans (Below.mono (And.right (by assumption)) hbn.out.size))).mono ?_); rintro r wC ⟨rfl, hb7⟩)))) | fail
            all_goals
              rename_i hh
              have hbF := hidden (hbn.out.trans (Below.mono hh.2 hbn.out.size))
              clear hh hs0 hC hS1 hS2 hS3 hS4 hb3
              by_cases hxy : x < y
              · go_wp2
                go_roundw
                case rel => exact ⟨k + 1, k, y, _, hlt, by go_num, by rw [hat.out hxy], rfl, by rw [hsk.out], rfl, by first | exact hgF.out | simpa using hgF.out, hN.out hxy, hbF.out⟩
                case measure => simp [RowKit.intOf]; omega
              · go_wp2
                go_roundw
                case rel => exact ⟨k + 1, q, x, _, hlt, by go_num, by rw [hAA.out], rfl, by rw [hsk.out], rfl, by first | exact hgF.out | simpa using hgF.out, hO.out (by omega), hbF.out⟩
                case measure => simp [RowKit.intOf]; omega
        · rw [decide_eq_false hok] at hlv
          have hc0 : ndC e = 103 := if_neg hok
          rw [hc0] at hS4
          have hy0 : shV e = 0 := shV_no hok
          have hgF := hidden (show false = true ↔ goodTo l (k + 1) from ⟨(fun h => by cases h), fun h => absurd (hgn.out.1 h).2 hok⟩)
          rw [hy0] at hsk hO
          have hI3 := hidden (hI.out 103 (.inr ⟨by decide, by decide⟩) 103)
          have hee : errOf A 103 = errAt (A 2) := rfl
          rw [hee] at hS4 hI3
          clear hee hgb hgn hS1 hS2 hS3 hN hc0 hy0
          obtain ⟨n, h⟩ := e
          simp only at q0 q1
          go_wp2_with fail
          (with_reducible refine hlv.out.mono ?_)
          rintro r w2 ⟨rfl, hb2⟩
          obtain ⟨⟨c0, c1⟩, _⟩ := hC.out _ hb2
          have hv2 := hidden (hS4.out _ (hbn.out.trans (hb2.mono hbn.out.size)))
          replace hb2 := hidden hb2
          clear hlv hok
          cases gb
          all_goals
            go_wp2_with fail
            (with_reducible refine hv2.out.mono ?_)
            rintro r w3 ⟨rfl, hb3⟩
            replace hb3 := hidden (hb2.out.trans (hb3.mono hb2.out.size))
            obtain ⟨⟨c0, c1⟩, _⟩ := hC.out _ hb3.out
            have hv3 := hidden (hS4.out _ (hbn.out.trans (hb3.out.mono hbn.out.size)))
            clear hv2 hb2
            go_wp2_with fail
            (with_reducible refine hv3.out.mono ?_)
            rintro r w4 ⟨rfl, hb4⟩
            replace hb4 := hidden (hb3.out.trans (hb4.mono hb3.out.size))
            have hI4 := hidden (hI3.out _ (hbn.out.trans (hb4.out.mono hbn.out.size)))
            clear hv3 hb3
            go_wp2_with fail
            (with_reducible refine hI4.out.mono ?_)
            rintro r w5 ⟨rfl, hb5⟩
            have hbF := hidden (hbn.out.trans ((hb4.out.trans (hb5.mono hb4.out.size)).mono hbn.out.size))
            clear hI4 hb4 hb5 hC hS4 hI3
            go_wp2
            go_roundw
            case rel => exact ⟨k + 1, q, x, _, hlt, by go_num, by rw [hAA.out], rfl, by rw [hsk.out]; simp, rfl, hgF.out, hO.out (by omega), hbF.out⟩
            case measure => simp [RowKit.intOf]; omega
      · obtain rfl : k = l.length := by omega
        rw [List.take_length]
        have hTw := hidden (hTo.out wr hb)
        have hsb := sumS_all l
        clear hx hSh hSp hBo hVa hl
        cases gb
        · obtain ⟨e1, e2⟩ := ndTC_bad (l := l) (fun h => by have := hgb.2 (goodTo_all.2 h); cases this)
          rw [e1, e2] at hTw
          have hI3 := hidden (hI.out 103 (.inr ⟨by decide, by decide⟩) 103)
          replace hb := hidden hb
          generalize errOf A 103 = er at *
          generalize sumS l = S at *
          generalize atV q x = aq at *
          clear hgb hws hWo hTo hI e1 e2
          go_wp2_with fail
          (with_reducible refine hTw.out.mono ?_)
          rintro r w3 ⟨rfl, hb3⟩
          replace hb3 := hidden (hb.out.trans (hb3.mono hb.out.size))
          have hI4 := hidden (hI3.out _ hb3.out)
          clear hTw hb hI3
          go_wp2_with fail
          (with_reducible refine hI4.out.mono ?_)
          rintro r w5 ⟨rfl, hb5⟩
          replace hb5 := hidden (hb3.out.trans (hb5.mono hb3.out.size))
          clear hI4 hb3
          go_wp2
          go_ret
          exact ⟨rfl, hb5.out⟩
        · have hall := goodTo_all.1 (hgb.1 rfl)
          have hWw := hidden (hWo.out)
          unfold WorstAt at hWw
          have hone := hidden (fun q' x' h => wsAt_one hws (q := q') (n := x') h)
          have haq : (0 < x ∧ atV q x = q) ∨ (¬ 0 < x ∧ atV q x = -1) := by
            unfold atV
            by_cases h : 0 < x
            · exact .inl ⟨h, if_pos h⟩
            · exact .inr ⟨h, if_neg h⟩
          have hI4 := hidden (hI.out 104 (.inr ⟨by decide, by decide⟩) 104)
          have hqs : ∀ S, sumS l = S → (1000000000000000 < S ∧ ndTC l = 104 ∧ ndTV l = 0) ∨ (¬ 1000000000000000 < S ∧ ndTC l = 0 ∧ ndTV l = S) := fun S e => by
            subst e
            by_cases h : 1000000000000000 < sumS l
            · exact .inl ⟨h, ndTC_over hall h⟩
            · exact .inr ⟨h, ndTC_fine hall (by omega)⟩
          generalize hSS : sumS l = S at *
          replace hqs := hqs S rfl
          generalize atV q x = aq at *
          replace hb := hidden hb
          clear hgb hws hWo hTo hI hall hSS
          generalize ndTC l = tc at *
          generalize ndTV l = tv at *
          rcases hqs with ⟨s1, rfl, rfl⟩ | ⟨s1, rfl, rfl⟩
          · rcases haq with ⟨y1, rfl⟩ | ⟨y1, rfl⟩
            all_goals
              rw [show errOf A 104 = errAt (A 3) from rfl] at hTw hI4
              go_wp2_with fail
              (with_reducible refine hTw.out.mono ?_)
              rintro r w3 ⟨rfl, hb3⟩
              replace hb3 := hidden (hb.out.trans (hb3.mono hb.out.size))
              have hW3 := hidden (hWw.out _ hb3.out)
              clear hTw hb hWw
              go_wp2_with fail
              (with_reducible refine hW3.out.mono ?_)
              rintro r w4 ⟨q', x', hws', rfl, hb4⟩
              obtain ⟨rfl, rfl⟩ := hone.out _ _ hws'
              replace hb4 := hidden (hb3.out.trans (hb4.mono hb3.out.size))
              have hI5 := hidden (hI4.out _ hb4.out)
              clear hws' hW3 hb3 hone hI4
              go_wp2_with fail
              (with_reducible refine hI5.out.mono ?_)
              rintro r w5 ⟨rfl, hb5⟩
              replace hb5 := hidden (hb4.out.trans (hb5.mono hb4.out.size))
              clear hI5 hb4
              go_wp2
              go_ret
              exact ⟨rfl, hb5.out⟩
          · rw [errOf_fine] at hTw
            rcases haq with ⟨y1, rfl⟩ | ⟨y1, rfl⟩
            all_goals
              go_wp2_with fail
              (with_reducible refine hTw.out.mono ?_)
              rintro r w3 ⟨rfl, hb3⟩
              replace hb3 := hidden (hb.out.trans (hb3.mono hb.out.size))
              have hW3 := hidden (hWw.out _ hb3.out)
              clear hTw hb hWw hI4
              go_wp2_with fail
              (with_reducible refine hW3.out.mono ?_)
              rintro r w4 ⟨q', x', hws', rfl, hb4⟩
              obtain ⟨rfl, rfl⟩ := hone.out _ _ hws'
              replace hb4 := hidden (hb3.out.trans (hb4.mono hb3.out.size))
              clear hws' hW3 hb3 hone
              go_wp2
              go_ret
              exact ⟨rfl, hb4.out⟩
end Go.Proofs.YtefjemkpbkikbaaDoor
