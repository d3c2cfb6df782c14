import Derived.Test.YtghkmagofadkfaaDoorCapsPlay1
import Derived.Test.YtghkmagofadkfaaDoorIsSelf
import Derived.Test.YtghkmagofadkfaaDoorLaidOn
namespace Go.Proofs.YtghkmagofadkfaaDoor
open Go.RowKit
set_option linter.unusedVariables false

def PlRel1 (l : List CpDo) (g h : Nat) (w0 : World) (i : Value) (w : World) : Prop :=
  ∃ k : Nat, k ≤ l.length ∧ i = .int .i64 (k : Int) ∧ CpAt w w0.heap.size g k (capT (l.take k)) ∧ RcAt w h (capT (l.take k)) ∧ Below w0.heap.size w0 w
def PlRel2 (T : CTab) (w0 : World) (n c : Value) (w : World) : Prop := ∃ k : Nat, k ≤ 3 ∧ c = .int .i64 ((k : Int) + 1) ∧ n = .int .i64 ((w32C T k).length : Int) ∧ w0 = w
def PlRel3 (T : CTab) (k : Nat) (w0 : World) (n d : Value) (w : World) : Prop := ∃ j : Nat, j ≤ 32 ∧ d = .int .i64 ((j : Int) + 1) ∧ n = .int .i64 ((w32C T k ++ idsC T ((k : Int) + 1) j).length : Int) ∧ w0 = w
set_option maxRecDepth 100000 in
set_option maxHeartbeats 12800000 in
theorem walk_capsPlay (v : Value) (l : List CpDo) (u : Value) (m : List Ln) (a0 a1 : Int) (A : Nat → Addr) (w : World) (hr : Row cpDoV 3 w v l) (hl : ∀ z ∈ l, CpDoBig z) (hrm : Row lnV 4 w u m) (hm : ∀ z ∈ m, lnIn z) (p0 : -9223372036854775808 ≤ a0) (p1 : a0 ≤ 9223372036854775807) (p2 : -9223372036854775808 ≤ a1) (p3 : a1 ≤ 9223372036854775807) (hS : Sents w A) :
    Calls Tryd.prog 3 #[v, u, .agg #[.int .i64 a0, .int .i64 a1]] w fun r w' => r = .returned (.bool true) ∧ Below w.heap.size w w' := by
  obtain ⟨va, vc, rfl⟩ := row_slice hr
  obtain ⟨ua, uc, rfl⟩ := row_slice hrm
  have hb0 := below_lm w (a0, a1)
  have hSa := hS.below hb0 (Nat.le_refl _)
  have hcs := hidden (fun W => lm_cells w W a0 a1)
  have hend := hidden (fun W (h : Below (w.alloc (lmO (a0, a1))).heap.size (w.alloc (lmO (a0, a1))) W) => hb0.trans (h.mono hb0.size))
  have hF := hidden (law16_first A _ (hSa.on [2, 3] (by decide)))
  have hways : (40 : Int) < (l.length : Int) ∨ (¬ (40 : Int) < (l.length : Int) ∧ (40 : Int) < (m.length : Int)) ∨ (l.length ≤ 40 ∧ m.length ≤ 40) := by omega
  rcases hways with t1 | ⟨t1, t2⟩ | ⟨t1, t2⟩
  iterate 2
    · clear hr hl hrm hm hS hSa hb0 hcs
      go_enter Tryd.func3, Tryd.ntmps3
      go_wp2_with fail
      refine hF.out.mono ?_
      rintro r w1 ⟨rfl, hb⟩
      replace hb := hidden (hend.out _ hb)
      go_wp2
      go_ret
      exact ⟨rfl, hb.out⟩
  · have g1 : ¬ (40 : Int) < (l.length : Int) := by omega
    have g2 : ¬ (40 : Int) < (m.length : Int) := by omega
    have hra := hr.below cpDoV_len hb0 (Nat.le_refl _)
    have hrma := hrm.below lnV_len hb0 (Nat.le_refl _)
    clear hr hrm hS hm hl
    have hask := hidden (show lmIn (a0, a1) from ⟨⟨p0, p1⟩, p2, p3⟩)
    have p2' := hidden p2
    have p3' := hidden p3
    obtain ⟨wa, hwa⟩ : ∃ wa, wa = w.alloc (lmO (a0, a1)) := ⟨_, rfl⟩
    rw [← hwa] at hSa hcs hend hF hra hrma
    have hE := hidden (hSa.on [2, 3] (by decide))
    have hSW := hidden (fun W (h : Below wa.heap.size wa W) => hSa.below h (Nat.le_refl _))
    have hx := hidden (fun k hk W (h2 : Below wa.heap.size wa W) => rowC_at (hra.below cpDoV_len h2 (Nat.le_refl _)) k hk)
    have hmr := hidden (fun W (h2 : Below wa.heap.size wa W) => hrma.below lnV_len h2 (Nat.le_refl _))
    have hI := hidden (fun c W (h : Below wa.heap.size wa W) (hc : codeOk c) => is_self A c W (hSa.below h (Nat.le_refl _)) hc)
    have hz := refCaps_zero
    clear hra hrma hSa p0 p1 p2 p3 hb0
    go_enter Tryd.func3, Tryd.ntmps3
    go_wp2_with fail
    have hF' := hF.out
    rw [hwa] at hF'
    refine hF'.mono ?_
    rw [← hwa]
    rintro r w1 ⟨rfl, hb⟩
    clear hF hF' hwa
    have hn := hidden (lnew16 hb)
    have hb2 := hidden (hn.out.2.alloc hn.out.2.size (.cells (cpC noC) 33))
    have hL0 := hidden (hn.out.1.below ((Below.refl _ _).alloc (Nat.le_refl _) (.cells (cpC noC) 33)) (Nat.le_refl _))
    have hC0 := rcAt_new (w1.alloc (.cells #[.map none] 29))
    rw [show (w1.alloc (.cells #[.map none] 29)).heap.size = w1.heap.size + 1 by simp] at hC0
    replace hC0 := hidden hC0
    have hw1 := hidden hb.size
    clear hb hn
    generalize hcn : cpC noC = cn at *
    go_wp2_with fail
    go_loopw [10] (fun i wr => PlRel1 l w1.heap.size (w1.heap.size + 1) wa i wr) (fun i _ => l.length - (RowKit.intOf i).toNat)
    case atStart => exact ⟨0, Nat.zero_le _, rfl, hL0.out, hC0.out, hb2.out⟩
    case round =>
      clear hL0 hC0 hb2
      obtain ⟨k, hk, rfl, hL, hC, hb⟩ := hrel
      by_cases hlt : k < l.length
      · obtain ⟨b, o, rfl, _⟩ := hx.out k hlt _ hb
        have hq := hidden (fun W (h2 : Below wa.heap.size wa W) => show ThreeAt W b (o + k * 3) (l.getD k cpZ) by
          obtain ⟨b', o', e, q⟩ := hx.out k hlt _ h2
          simp only [Option.some.injEq, Addr.mk.injEq, and_true] at e
          obtain ⟨rfl, rfl⟩ := e
          exact q)
        have hlI : (k : Int) < (l.length : Int) := by omega
        have htk := hidden (capT_snoc l k hlt)
        unfold doC at htk
        generalize l.getD k cpZ = e at *
        obtain ⟨c, d, x⟩ := e
        have hq' := hidden (fun W (h : Below wa.heap.size wa W) => show DoCS wa b (o + k * 3) c d x W from ⟨hq.out W h, h⟩)
        have hk6 : k < 1000000 := by omega
        generalize capT (l.take k) = T at *
        have hSet := hidden (fun W (hb : Below wa.heap.size wa W) (hL : CpAt W wa.heap.size w1.heap.size k T) => cpSet_any A W wa.heap.size w1.heap.size k T hL hb.size hk6 (c, d) x ((hE.out.sub (by decide)).below hb (Nat.le_refl _)))
        have hRef := hidden (fun W (hC : RcAt W (w1.heap.size + 1) T) => refCpSet_any W (w1.heap.size + 1) T (c, d) x hC)
        have hIs := hidden (fun W h => hI.out (setCC (c, d) x) W h (by rcases setCC_ok (c, d) x with q | q <;> rw [q]; exact .inl rfl; exact .inr (by decide)))
        unfold CpSetAt at hSet
        unfold RefCpSetAt at hRef
        simp only at htk
        generalize setCT T (c, d) x = T' at *
        generalize setCC (c, d) x = cc at *
        have hs0 := hidden (hq'.out _ hb.drew)
        replace hL := hidden (hL.same (w' := wr.drew) fun _ _ => rfl)
        replace hC := hidden (hC.block (w' := wr.drew) rfl)
        have hlow := hidden (show Below wa.heap.size wa wr.drew from hb.drew)
        have hhi := hidden (show wa.heap.size ≤ w1.heap.size + 1 from Nat.le_trans hw1.out (Nat.le_succ _))
        clear hq hx hb hI
        go_wp2_with fail
        first | (go_region_held3 (fun W => (W.cell? ⟨b, o + k * 3, none⟩ = some (.int .i64 c) ∧ W.cell? ⟨b, o + k * 3 + 1, none⟩ = some (.int .i64 d) ∧ W.cell? ⟨b, o + k * 3 + 2, none⟩ = some (.int .i64 x)) ∧ Below wa.heap.size wa W)
          ((first | exact hs0.out | assumption | exact hq'.out _ hlow.out))
          ((first
            | (go_at_call 11; (with_reducible refine (hSet.out _ hlow.out hL.out).mono ?_); rintro e' w' ⟨rfl, hL5, ht5⟩; have hLo := hL; replace hC := hidden (hC.out.apart hLo.out ht5); replace hlow := hidden (hlow.out.trans (hLo.out.keeps ht5 hlow.out.size)); replace hL := hidden hL5; clear hL5)
            | (go_at_call 12; (with_reducible refine (hRef.out _ hC.out).mono ?_); rintro e' w' ⟨rfl, hC6, ht6⟩; replace hL := hidden (hL.out.apart hC.out ht6); replace hlow := hidden (hlow.out.trans (ht6.below (fun j hj => by rw [hj]; exact hhi.out) hlow.out.size)); replace hC := hidden hC6; clear hC6)
            | (go_at_call 10; (with_reducible refine (hIs.out _ hlow.out).mono ?_); rintro e' w' ⟨rfl, hb5⟩; replace hL := hidden (hL.out.below hb5 (Nat.le_refl _)); replace hC := hidden (hC.out.below hb5); replace hlow := hidden (hlow.out.trans (hb5.mono hlow.out.size)))))) | fail
        all_goals
          clear hs0 hSet hRef hIs
          go_wp2
          go_roundw
          case rel => exact ⟨k + 1, hlt, by go_num, by rw [htk.out]; exact hL.out, by rw [htk.out]; exact hC.out, hlow.out⟩
          case measure => simp [RowKit.intOf]; omega
      · obtain rfl : k = l.length := by omega
        rw [List.take_length] at hL hC
        have hLN := hidden (show l.length ≤ 40 from t1)
        generalize capT l = T at *
        have hAll := hidden (lall16 hb hL)
        replace hC := hidden hC
        clear hx hI hL hb
        go_wp2_with fail
        (with_reducible refine hAll.out.mono ?_)
        rintro r w7 ⟨⟨av, rfl, hown⟩, hL7, hb7, hb7'⟩
        have hCa := hidden hL7.ho
        have hC7 := hidden (hC.out.below hb7')
        have hrowA := hown.row limV_len
        obtain ⟨aa, ac, rfl⟩ := row_slice hrowA
        have hG := hidden (fun (c d : Int) h1 h2 => refCpGet_any w7 (w1.heap.size + 1) T c d hC7.out h1 h2)
        have hxA := hidden (fun k hk => rowM_at hrowA k hk)
        have hle := allC_le T
        replace hL7 := hidden hL7
        replace hb7 := hidden hb7
        clear hAll hC hown hrowA hb7'
        go_wp2_with fail
        go_loopw [12, 13] (fun n c wr => PlRel2 T w7 n c wr) (fun _ c _ => 4 - (RowKit.intOf c).toNat)
        case atStart => exact ⟨0, by omega, rfl, rfl, rfl⟩
        case round =>
          obtain ⟨k, hk, rfl, rfl, rfl⟩ := hrel
          by_cases hk3 : k < 3
          · have hkI : (k : Int) + 1 ≤ 3 := by omega
            go_wp2_with fail
            go_loopw [12, 14] (fun n d wr => PlRel3 T k w7 n d wr) (fun _ d _ => 33 - (RowKit.intOf d).toNat)
            case atStart => exact ⟨0, by omega, rfl, by simp [idsC], rfl⟩
            case round =>
              obtain ⟨j, hj, rfl, rfl, rfl⟩ := hrel
              by_cases hj32 : j < 32
              · have hjI : (j : Int) + 1 ≤ 32 := by omega
                have hG1 := hidden (hG.out ((k : Int) + 1) ((j : Int) + 1) (by omega) (by omega))
                have hids : idsC T ((k : Int) + 1) (j + 1) = idsC T ((k : Int) + 1) j ++ (if getC T ((k : Int) + 1, (j : Int) + 1) = 0 then [] else [((k : Int) + 1, (j : Int) + 1)]) := rfl
                by_cases hx0 : getC T ((k : Int) + 1, (j : Int) + 1) = 0
                · rw [if_pos hx0, List.append_nil] at hids
                  rw [hx0] at hG1
                  have hnn := hidden (show (w32C T k ++ idsC T ((k : Int) + 1) (j + 1)).length = (w32C T k ++ idsC T ((k : Int) + 1) j).length by rw [hids])
                  clear hx0 hids
                  generalize (w32C T k ++ idsC T ((k : Int) + 1) j).length = n at *
                  go_wp2_with fail
                  (with_reducible refine hG1.out.mono ?_)
                  rintro r w8 ⟨rfl, rfl⟩
                  go_wp2
                  go_roundw
                  case rel => exact ⟨j + 1, by omega, by go_num, by rw [hnn.out], rfl⟩
                  case measure => simp [RowKit.intOf]; omega
                · obtain ⟨hn1, hn2⟩ := all_at hCa.out hk3 hj32 hx0
                  rw [if_neg hx0] at hids
                  have hnn := hidden (show (w32C T k ++ idsC T ((k : Int) + 1) (j + 1)).length = (w32C T k ++ idsC T ((k : Int) + 1) j).length + 1 by rw [hids, ← List.append_assoc, List.length_append]; rfl)
                  obtain ⟨b, o, rfl, d0, d1⟩ := hxA.out _ hn1
                  rw [hn2] at d0 d1
                  have hnI : (((w32C T k ++ idsC T ((k : Int) + 1) j).length : Nat) : Int) < ((allC T).length : Int) := by omega
                  have hxb : (getC T ((k : Int) + 1, (j : Int) + 1) == 0) = false := by rw [beq_eq_false_iff_ne]; exact hx0
                  clear hids hn2 hx0
                  generalize (w32C T k ++ idsC T ((k : Int) + 1) j).length = n at *
                  generalize (allC T).length = LN at *
                  generalize getC T ((k : Int) + 1, (j : Int) + 1) = x at *
                  simp only at d0 d1
                  go_wp2_with fail
                  (with_reducible refine hG1.out.mono ?_)
                  rintro r w8 ⟨rfl, rfl⟩
                  go_wp2
                  go_roundw
                  case rel => exact ⟨j + 1, by omega, by go_num, by rw [hnn.out]; go_num, rfl⟩
                  case measure => simp [RowKit.intOf]; omega
              · obtain rfl : j = 32 := by omega
                go_wp2
                go_roundw
                case rel => exact ⟨k + 1, by omega, by go_num, rfl, rfl⟩
                case measure => simp [RowKit.intOf]; omega
          · obtain rfl : k = 3 := by omega
            rw [w32_all hCa.out]
            generalize (allC T).length = LN at *
            have hrm7 := hmr.out w7 hb7.out
            have hSum := hidden (lsumA16 hb7.out hL7.out hE.out hrm7 (by omega))
            clear hxA hG
            go_wp2_with fail
            (with_reducible refine hSum.out.mono ?_)
            rintro r w8 ⟨hs8, hL8, hb8, hb8'⟩
            obtain ⟨sv, ev, c, pl, p, er, hfa, hfr⟩ : ∃ (sv : Int) (ev : Value) (c : Int) (pl : Bool) (p : Int), r = .returned (.tuple #[.int .i64 sv, ev]) ∧ (∀ W, Below w8.heap.size w8 W → FaultIs W ev c pl p) ∧
                (∀ W e W', RefSumAt T m W e W' → e = .returned (.tuple #[.int .i64 sv, faultV c pl p]) ∧ Below W.heap.size W W') := by
              rcases hs8.1 with ⟨k, ga, q, q2, q3⟩ | ⟨q, q2⟩
              · refine ⟨0, _, 103, true, (k : Int), q2, fun W hW => faultIs_at A 2 ga (k : Int) W (hSW.out _ (hb8.trans (hW.mono hb8.size))) (by decide) ?_, fun W e W' h => ?_⟩
                · show AtIn W ga (k : Int) (A 2)
                  exact (hW.block _ (Array.getElem?_eq_some_iff.1 (show _ = _ from q3)).1).trans q3
                · rcases h.1 with ⟨k', z, z2⟩ | ⟨z, _⟩
                  · rw [q] at z
                    obtain rfl := Option.some.inj z
                    exact ⟨z2, h.2⟩
                  · rw [q] at z; cases z
              · have hco : codeOk (suC T m) := by
                  by_cases hf : fits T m
                  · rw [(su_fine q hf).2]; exact .inl rfl
                  · rw [(su_over q hf).2]; exact .inr (by decide)
                refine ⟨suV T m, _, suC T m, false, 0, q2, fun W hW => faultIs_of A (suC T m) W (hSW.out _ (hb8.trans (hW.mono hb8.size))) hco, fun W e W' h => ?_⟩
                rcases h.1 with ⟨k', z, _⟩ | ⟨_, z2⟩
                · rw [q] at z; cases z
                · exact ⟨z2, h.2⟩
            subst er
            have hfa' := hidden hfa
            have hfr' := hidden hfr
            have hOt := hidden (other16_any w8 _ m (hmr.out w8 hb8) (by omega))
            have hC8 := hidden (hC7.out.below hb8')
            replace hL8 := hidden hL8
            replace hb8 := hidden hb8
            clear hSum hs8 hb8' hfa hfr hC7 hL7 hb7 hrm7
            go_wp2_with fail
            (with_reducible refine hOt.out.mono ?_)
            rintro r w9 ⟨ov, rfl, hown9, hb9⟩
            have hRS := hidden ((refCpSum_any w9 (w1.heap.size + 1) T (hC8.out.below hb9) ov m (hown9.row lnV_len)).mono fun e W' h => hfr'.out _ _ _ h)
            have hL9 := hidden (hL8.out.below hb9 (Nat.le_refl _))
            have hC9 := hidden (hC8.out.below hb9)
            have hlo9 := hidden hb9
            clear hOt hown9 hb9 hC8 hL8 hfr'
            go_wp2_with fail
            (with_reducible refine hRS.out.mono ?_)
            rintro r w10 ⟨rfl, hb10⟩
            have hW : Below w10.heap.size w10 (w10.alloc (fcells c pl p)) := (Below.refl _ w10).alloc (Nat.le_refl _) _
            have hL11 := hidden ((hL9.out.below hb10 (Nat.le_refl _)).below hW (Nat.le_refl _))
            have hC11 := hidden ((hC9.out.below hb10).below hW)
            have h8 := hidden ((hlo9.out.trans (hb10.mono hlo9.out.size)).trans (hW.mono (hlo9.out.trans (hb10.mono hlo9.out.size)).size))
            have hfl := hidden (heap_alloc_new w10 (fcells c pl p))
            clear hRS hb10 hW hL9 hC9 hlo9
            have hfw := hidden (fun W (h : Below (w10.alloc (fcells c pl p)).heap.size (w10.alloc (fcells c pl p)) W) => hfa'.out W (h8.out.trans (h.mono h8.out.size)))
            have hb11 := hidden (hb8.out.trans (h8.out.mono hb8.out.size))
            clear hfa' h8 hb8
            go_wp2_with fail
            change Code.wp _ _ _ _ (w10.alloc (fcells c pl p))
            generalize w10.alloc (fcells c pl p) = w11 at *
            have hq := hidden (fun W (h : Below w11.heap.size w11 W) => show ((W.cell? ⟨w.heap.size, 0, none⟩ = some (.int .i64 a0) ∧ W.cell? ⟨w.heap.size, 1, none⟩ = some (.int .i64 a1)) ∧ W.cell? ⟨w10.heap.size, 0, none⟩ = some (.int .i64 c) ∧ W.cell? ⟨w10.heap.size, 1, none⟩ = some (.bool pl) ∧ W.cell? ⟨w10.heap.size, 2, none⟩ = some (.int .i64 p)) by
              have hr := (h.block _ (Array.getElem?_eq_some_iff.1 hfl.out).1).trans hfl.out
              refine ⟨hcs.out W (hb11.out.trans (h.mono hb11.out.size)), ?_, ?_, ?_⟩ <;> (rw [cell_of_row _ _ _ _ _ _ hr]; rfl))
            have hGx := hidden (fun W (hb : Below wa.heap.size wa W) (hL : CpAt W wa.heap.size w1.heap.size l.length T) => lget16 hb hL (a0, a1) hask.out)
            have hGy := hidden (fun W (hC : RcAt W (w1.heap.size + 1) T) => refCpGet_any W (w1.heap.size + 1) T a0 a1 hC p2'.out p3'.out)
            have hSm := hidden (fun W (h : Below w11.heap.size w11 W) => same_self ev c p pl W (hfw.out W h))
            generalize getC T (a0, a1) = gv at *
            have hs0 := hidden (hq.out _ (Below.refl w11.heap.size w11).drew)
            have hL := hidden (hL11.out.same (w' := w11.drew) fun _ _ => rfl)
            have hC := hidden (hC11.out.block (w' := w11.drew) rfl)
            have hlow := hidden (Below.refl w11.heap.size w11).drew
            have hlw := hidden (fun W (h : Below w11.heap.size w11 W) => hb11.out.trans (h.mono hb11.out.size))
            clear hL11 hC11 hfl hfw hcs hask p2' p3' hSW hmr hE
            first | (go_region_held3 (fun W => (W.cell? ⟨w.heap.size, 0, none⟩ = some (.int .i64 a0) ∧ W.cell? ⟨w.heap.size, 1, none⟩ = some (.int .i64 a1)) ∧ W.cell? ⟨w10.heap.size, 0, none⟩ = some (.int .i64 c) ∧ W.cell? ⟨w10.heap.size, 1, none⟩ = some (.bool pl) ∧ W.cell? ⟨w10.heap.size, 2, none⟩ = some (.int .i64 p))
              ((first | exact hs0.out | assumption | exact hq.out _ hlow.out))
              ((first
                | (go_at_call 18; (with_reducible refine (hGx.out _ (hlw.out _ hlow.out) hL.out).mono ?_); rintro e' w' ⟨rfl, hL5, _, hb5⟩; replace hL := hidden hL5; replace hC := hidden (hC.out.below hb5); replace hlow := hidden (hlow.out.trans (hb5.mono hlow.out.size)); clear hL5)
                | (go_at_call 14; (with_reducible refine (hGy.out _ hC.out).mono ?_); rintro e' w' ⟨rfl, rfl⟩)
                | (go_at_call 19; (with_reducible refine (hSm.out _ hlow.out).mono ?_); rintro e' w' ⟨rfl, hb6⟩; replace hL := hidden (hL.out.below hb6 (Nat.le_refl _)); replace hC := hidden (hC.out.below hb6); replace hlow := hidden (hlow.out.trans (hb6.mono hlow.out.size)))))) | fail
            all_goals
              have hfin := hidden (hend.out _ (hlw.out _ hlow.out))
              clear hs0 hGx hGy hSm hL hC hlow hlw
              go_wp2
              go_ret
              exact ⟨rfl, hfin.out⟩
end Go.Proofs.YtghkmagofadkfaaDoor
