import Derived.Test.YthlepeeejmeahaaDoorCutPlays1
import Derived.Test.YthlepeeejmeahaaDoorLaidOn
import Derived.Test.YthlepeeejmeahaaDoorTake
import Derived.Deep.DeepCutAuto
namespace Go.Proofs.YthlepeeejmeahaaDoor
open Go.RowKit
set_option linter.unusedVariables false

def CutPlayRel (N g h : Nat) (w0 : World) (i : Value) (w : World) : Prop :=
  ∃ (k : Nat) (T : StepT → Option Int) (fx : Int), k ≤ N ∧ i = .int .i64 (k : Int) ∧ PairAt w0 w g h k T fx ∧ Below w0.heap.size w0 w
def CutOutRel (T : StepT → Option Int) (w0 : World) (n i : Value) (w : World) : Prop := ∃ k : Nat, k ≤ 6 ∧ i = .int .i64 ((k : Int) + 1) ∧ n = .int .i64 (((allK T (k * 6)).length : Nat) : Int) ∧ w0 = w
def CutInRel (T : StepT → Option Int) (k : Nat) (w0 : World) (n i : Value) (w : World) : Prop := ∃ j : Nat, j ≤ 6 ∧ i = .int .i64 (j : Int) ∧ n = .int .i64 (((allK T (k * 6 + j)).length : Nat) : Int) ∧ w0 = w
set_option maxRecDepth 100000 in
set_option maxHeartbeats 16000000 in
theorem walk_cutPlays (v : Value) (l : List DoT) (a : As) (t c d : Int) (A : Nat → Addr) (w : World) (hr : Row doV 4 w v l) (hl : ∀ z ∈ l, DoBig z) (ha : AsBig a) (t0 : -9223372036854775808 ≤ t) (t1 : t ≤ 9223372036854775807) (c0 : -9223372036854775808 ≤ c) (c1 : c ≤ 9223372036854775807) (d0 : -9223372036854775808 ≤ d) (d1 : d ≤ 9223372036854775807) (hS : Sents w A) (hT : EndsOn w) :
    Calls Tryd.prog 3 #[v, asA a, .int .i64 t, .int .i64 c, .int .i64 d] w fun r w' => r = .returned (.bool true) ∧ Below w.heap.size w w' := by
  obtain ⟨va, vc, rfl⟩ := row_slice hr
  have hba := hidden (below_as w a)
  have hE := hidden (hS.on [2] (by decide))
  have hF := hidden (law12_first A (w.alloc (asO a)) (hE.out.below (below_as w a) (Nat.le_refl _)) (hT.below (below_as w a) (Nat.le_refl _)))
  by_cases h60 : (60 : Int) < (l.length : Int)
  · clear hr hl ha t0 t1 c0 c1 d0 d1 hS hT hE
    go_enter Tryd.func3, Tryd.ntmps3
    go_wp2_with fail
    refine hF.out.mono ?_
    rintro r w1 ⟨rfl, hb⟩
    have hb1 := hidden (hba.out.trans (hb.mono hba.out.size))
    clear hb
    go_wp2
    go_ret
    exact ⟨rfl, hb1.out⟩
  · have h61 : l.length ≤ 60 := by omega
    have hra := hr.below doV_len (below_as w a) (Nat.le_refl _)
    have hSa := hS.below (below_as w a) (Nat.le_refl _)
    have hTa := hidden (hT.below (below_as w a) (Nat.le_refl _))
    replace hE := hidden (hE.out.below (below_as w a) (Nat.le_refl _))
    have hin : stIn (c, d) := ⟨⟨c0, c1⟩, d0, d1⟩
    replace hin := hidden hin
    have hbt := hidden (And.intro t0 t1)
    have hasn := hidden (fun W (h : Below (w.alloc (asO a)).heap.size (w.alloc (asO a)) W) => as_cells w W a h)
    have hz := hidden cuts_zero
    have hpn := hidden (fun (wa w1 : World) (hb : Below wa.heap.size wa w1) => pairAt_new hb)
    clear hr hl ha t0 t1 c0 c1 d0 d1 hS hT
    go_enter Tryd.func3, Tryd.ntmps3
    go_wp2_with fail
    refine hF.out.mono ?_
    rintro r w1 ⟨rfl, hb⟩
    generalize w.alloc (asO a) = wa at *
    have hx := hidden (fun k hk W (h : Below wa.heap.size wa W) => rowDo_at (hra.below doV_len h (Nat.le_refl _)) k hk)
    have hI := hidden (fun k (hk : codeOk k) W (h : Below wa.heap.size wa W) => is_self A k W (hSa.below h (Nat.le_refl _)) hk)
    have hpn1 := hidden (hpn.out wa w1 hb)
    clear hF hra hSa hpn hb
    have hzz := hz.out
    clear hz
    generalize cutC noT 0 = F at *
    go_wp2_with fail
    go_loopw [14] (fun i wr => CutPlayRel l.length w1.heap.size (w1.heap.size + 1) wa i wr) (fun i _ => l.length - (intOf i).toNat)
    case atStart => exact ⟨0, noT, 0, Nat.zero_le _, rfl, hpn1.out.1, hpn1.out.2⟩
    case round =>
      obtain ⟨k, T, fx, hk, rfl, hP, hb⟩ := hrel
      clear hpn1 hzz
      generalize w1.heap.size + 1 = h at *
      generalize w1.heap.size = g at *
      by_cases hlt : k < l.length
      · obtain ⟨b, o, rfl, q0, q1, q2, q3⟩ := hx.out k hlt wr hb
        have hlI : (k : Int) < (l.length : Int) := by omega
        have hk6 : k < 1000000 := by omega
        clear hx hasn hin hbt
        generalize l.getD k doZ = e at *
        have hgl := hP.lad.lt
        have hhl := hP.cut.lt
        have hne := hidden hP.ne
        have hhi := hidden hP.hi
        have hs0 := hidden (doS_of (heap_alloc_new wr (doO e)) (hb.alloc hb.size (doO e)))
        have hn1 := hidden (show wr.heap.size ≠ g by omega)
        have hn2 := hidden (show wr.heap.size ≠ h by omega)
        replace hP := hidden (hP.below ((Below.refl _ wr).alloc (Nat.le_refl _) (doO e)))
        replace hb := hidden hb
        by_cases hk1 : e.k = 1
        · have hkB : (e.k == 1) = true := by simpa using hk1
          have hSet := hidden (fun W (hb : Below wa.heap.size wa W) hL => show Calls Tryd.prog 9 #[.pointer (some ⟨g, 0, none⟩), .agg #[.int .i64 e.c, .int .i64 e.b], .int .i64 e.x] W (SetAt A wa.heap.size g k T fx (e.c, e.b) e.x W) from set_anyC A W wa.heap.size g k T fx hL hb.size hk6 (e.c, e.b) e.x (hE.out.below hb (Nat.le_refl _)))
          have hRef := hidden (fun W hC => refSet_any W h T fx e.c e.b e.x hC)
          have hIs := hidden (fun W h => hI.out _ (setC_code (e.c, e.b) e.x) W h)
          unfold SetAt at hSet
          unfold RefSetAt at hRef
          clear hI hk1 hgl hhl
          have hL := hidden hP.out.lad
          have hC := hidden hP.out.cut
          clear hP
          go_wp2_with fail
          replace hL := hidden (hL.out.same (w' := (wr.alloc (doO e)).drew) fun _ _ => rfl)
          replace hC := hidden (hC.out.block (w' := (wr.alloc (doO e)).drew) rfl)
          generalize setT T (e.c, e.b) e.x = T' at *
          generalize setC (e.c, e.b) e.x = cv at *
          (go_region_held3 (fun W => (W.cell? ⟨wr.heap.size, 0, none⟩ = some (.int .i64 e.k) ∧ W.cell? ⟨wr.heap.size, 1, none⟩ = some (.int .i64 e.c) ∧ W.cell? ⟨wr.heap.size, 2, none⟩ = some (.int .i64 e.b) ∧ W.cell? ⟨wr.heap.size, 3, none⟩ = some (.int .i64 e.x)) ∧ W.heap[wr.heap.size]? = some (.cells #[.int .i64 e.k, .int .i64 e.c, .int .i64 e.b, .int .i64 e.x] 36) ∧ Below wa.heap.size wa W)
            ((first | exact doS_drew hs0.out | assumption | exact doS_next (by assumption) hb5 | exact doS_lad (by assumption) hLo.out ht5 hn1.out | exact doS_trd (by assumption) ht6 hn2.out hhi.out))
            ((first
              | (go_at_call 9; (with_reducible refine (hSet.out _ (doS_low (by assumption)) hL.out).mono ?_); rintro e' w' ⟨rfl, hL5, ht5⟩; have hLo := hL; replace hC := hidden (hC.out.lad hLo.out ht5 hne.out); replace hL := hidden hL5; clear hL5)
              | (go_at_call 10; (with_reducible refine (hRef.out _ hC.out).mono ?_); rintro e' w' ⟨rfl, hC6, ht6⟩; replace hL := hidden (hL.out.other ht6 hne.out hC.out.row); replace hC := hidden hC6; clear hC6)
              | (go_at_call 8; (with_reducible refine (hIs.out _ (doS_low (by assumption))).mono ?_); rintro e' w' ⟨rfl, hb5⟩; replace hL := hidden (hL.out.below hb5 (Nat.le_refl _)); replace hC := hidden (hC.out.below hb5)))))
          rename_i hh
          have hend := hidden (doS_low hh)
          clear hh hs0 hSet hRef hIs
          go_wp2
          go_roundw
          case rel => exact ⟨k + 1, T', fx, hlt, by go_num, ⟨hL.out, hC.out, hne.out, hhi.out⟩, hend.out⟩
          case measure => simp [intOf]; omega
        · have hkB : (e.k == 1) = false := by simpa using hk1
          have hSet := hidden (fun W (hb : Below wa.heap.size wa W) hL => setFx_any A W wa.heap.size g k T fx hL e.x (hE.out.below hb (Nat.le_refl _)))
          have hRef := hidden (fun W hC => refSetFx_any W h T fx e.x hC)
          have hIs := hidden (fun W h => hI.out _ (fxC_code e.x) W h)
          clear hI hk1 hgl hhl
          have hL := hidden hP.out.lad
          have hC := hidden hP.out.cut
          clear hP
          go_wp2_with fail
          replace hL := hidden (hL.out.same (w' := (wr.alloc (doO e)).drew) fun _ _ => rfl)
          replace hC := hidden (hC.out.block (w' := (wr.alloc (doO e)).drew) rfl)
          generalize fxN fx e.x = fx' at *
          generalize fxC e.x = cv at *
          (go_region_held3 (fun W => (W.cell? ⟨wr.heap.size, 0, none⟩ = some (.int .i64 e.k) ∧ W.cell? ⟨wr.heap.size, 1, none⟩ = some (.int .i64 e.c) ∧ W.cell? ⟨wr.heap.size, 2, none⟩ = some (.int .i64 e.b) ∧ W.cell? ⟨wr.heap.size, 3, none⟩ = some (.int .i64 e.x)) ∧ W.heap[wr.heap.size]? = some (.cells #[.int .i64 e.k, .int .i64 e.c, .int .i64 e.b, .int .i64 e.x] 36) ∧ Below wa.heap.size wa W)
            ((first | exact doS_drew hs0.out | assumption | exact doS_next (by assumption) hb5 | exact doS_lad (by assumption) hLo.out ht5 hn1.out | exact doS_trd (by assumption) ht6 hn2.out hhi.out))
            ((first
              | (go_at_call 11; (with_reducible refine (hSet.out _ (doS_low (by assumption)) hL.out).mono ?_); rintro e' w' ⟨rfl, hL5, ht5⟩; have hLo := hL; replace hC := hidden (hC.out.lad hLo.out ht5 hne.out); replace hL := hidden hL5; clear hL5)
              | (go_at_call 12; (with_reducible refine (hRef.out _ hC.out).mono ?_); rintro e' w' ⟨rfl, hC6, ht6⟩; replace hL := hidden (hL.out.other ht6 hne.out hC.out.row); replace hC := hidden hC6; clear hC6)
              | (go_at_call 8; (with_reducible refine (hIs.out _ (doS_low (by assumption))).mono ?_); rintro e' w' ⟨rfl, hb5⟩; replace hL := hidden (hL.out.below hb5 (Nat.le_refl _)); replace hC := hidden (hC.out.below hb5)))))
          rename_i hh
          have hend := hidden (doS_low hh)
          clear hh hs0 hSet hRef hIs
          go_wp2
          go_roundw
          case rel => exact ⟨k + 1, T, fx', hlt, by go_num, ⟨hL.out.mono (Nat.le_succ _), hC.out, hne.out, hhi.out⟩, hend.out⟩
          case measure => simp [intOf]; omega
      · obtain rfl : k = l.length := by omega
        have hne := hidden hP.ne
        have hhi := hidden hP.hi
        have hL := hidden hP.lad
        have hC := hidden hP.cut
        replace hb := hidden hb
        clear hP hx hI hlt hk
        go_wp2_with fail
        refine (lall12 hb.out hL.out).mono ?_
        rintro r w3 ⟨⟨v3, rfl, hown⟩, hL3, hb3, hd3⟩
        obtain ⟨aa, ac, rfl⟩ := row_slice (hown.row stepV_len)
        have hC3 := hidden (hC.out.below hd3)
        have hrw := hidden (hown.row stepV_len)
        replace hL3 := hidden hL3
        replace hb3 := hidden hb3
        clear hL hC hb hown hd3
        go_wp2_with fail
        go_loopw [17, 18] (fun n i wr => CutOutRel T w3 n i wr) (fun _ i _ => 7 - (intOf i).toNat)
        case atStart => exact ⟨0, by omega, rfl, rfl, rfl⟩
        case round =>
          obtain ⟨k, hk, rfl, rfl, rfl⟩ := hrel
          by_cases hk6 : k < 6
          · have hkI : (k : Int) + 1 ≤ 6 := by omega
            go_wp2_with fail
            go_loopw [17, 19] (fun n i wr => CutInRel T k w3 n i wr) (fun _ i _ => 6 - (intOf i).toNat)
            case atStart => exact ⟨0, by omega, rfl, rfl, rfl⟩
            case round =>
              obtain ⟨j, hj, rfl, rfl, rfl⟩ := hrel
              by_cases hj6 : j < 6
              · have hjI : (j : Int) < 6 := by omega
                have cI := hC3.out.is k j hk6 hj6
                rw [← Nat.add_assoc] at cI
                have hnx := hidden (allK_next T (k * 6 + j))
                have hat := hidden (allS_at T (k * 6 + j) (by omega))
                have hn36 : ((allK T (k * 6 + j)).length : Int) ≤ 36 := by have := allK_le T (k * 6 + j); omega
                rw [stepAt_of k j hj6] at hnx hat
                clear hC3 hL3 hb3 hin hbt hasn hE hTa
                generalize hn : (allK T (k * 6 + j)).length = n at *
                replace hn := hidden hn
                cases hB : (T ((k : Int) + 1, (j : Int))).isSome with
                | false =>
                  rw [hB] at cI hnx
                  clear hB hat hrw
                  go_wp2
                  go_roundw
                  case rel => exact ⟨j + 1, by omega, by go_num, by rw [← Nat.add_assoc, hnx.out]; simp [hn.out], rfl⟩
                  case measure => simp [intOf]; omega
                | true =>
                  rw [hB] at cI hnx hat
                  obtain ⟨hlt, hgd⟩ := hat.out rfl
                  obtain ⟨bs, os, rfl, r0, r1⟩ := rowSt_at hrw.out n hlt
                  rw [hgd] at r0 r1
                  simp only at r0 r1
                  have hltI : (n : Int) < ((allS T).length : Int) := by omega
                  clear hB hat hrw hgd
                  generalize (allS T).length = L at *
                  go_wp2
                  go_roundw
                  case rel => exact ⟨j + 1, by omega, by go_num, by rw [← Nat.add_assoc, hnx.out]; simp [hn.out], rfl⟩
                  case measure => simp [intOf]; omega
              · obtain rfl : j = 6 := by omega
                go_wp2
                go_roundw
                case rel => exact ⟨k + 1, by omega, by go_num, by rw [show (k + 1) * 6 = k * 6 + 6 by omega], rfl⟩
                case measure => simp [intOf]; omega
          · obtain rfl : k = 6 := by omega
            have hL := hL3
            have hC := hC3
            have hGx := hidden (fun W hL => show Calls Tryd.prog 14 #[.pointer (some ⟨g, 0, none⟩), .agg #[.int .i64 c, .int .i64 d]] W (fun e w' => e = .returned (.int .i64 (getT T (c, d))) ∧ Below W.heap.size W w') from get_anyC W wa.heap.size g l.length T fx hL (c, d) hin.out)
            have hGy := hidden (fun W hC => refGet_any W h T fx c d hC)
            have hFx := hidden (fun W hL => fx_any W wa.heap.size g l.length T fx hL)
            have hs0 := hidden (show CuS wa h fx w3 from ⟨hC.out.fxc, hb3.out⟩)
            have he6 : allK T (6 * 6) = allS T := rfl
            rw [he6]
            clear he6 hin hC3 hL3 hrw
            generalize getT T (c, d) = gv at *
            generalize (allS T).length = L at *
            go_wp2_with fail
            replace hL := hidden (hL.out.same (w' := w3.drew) fun _ _ => rfl)
            replace hC := hidden (hC.out.block (w' := w3.drew) rfl)
            (go_region_held3 (fun W => W.cell? ⟨h, 72, none⟩ = some (.int .i64 fx) ∧ Below wa.heap.size wa W)
              ((first | exact cuS_drew hs0.out | assumption | exact cuS_next (by assumption) hb5))
              ((first
                | (go_at_call 14; (with_reducible refine (hGx.out _ hL.out).mono ?_); rintro e' w' ⟨rfl, hb5⟩; replace hL := hidden (hL.out.below hb5 (Nat.le_refl _)); replace hC := hidden (hC.out.below hb5))
                | (go_at_call 15; (with_reducible refine (hGy.out _ hC.out).mono ?_); rintro e' w' ⟨rfl, rfl⟩)
                | (go_at_call 16; (with_reducible refine (hFx.out _ hL.out).mono ?_); rintro e' w' ⟨rfl, hb5⟩; replace hL := hidden (hL.out.below hb5 (Nat.le_refl _)); replace hC := hidden (hC.out.below hb5)))))
            rename_i hh
            have hb4 := hidden hh.2
            clear hh hs0 hGx hGy hFx hb3
            have hs0 := hidden (show FiveA wa w.heap.size a.i a.s a.c a.m a.e _ from ⟨hasn.out _ hb4.out, hb4.out⟩)
            have hVal := hidden (fun W => refValid_any a W)
            clear hasn
            by_cases hok : AsOk a
            · have hv0 : vC a = 0 := if_pos hok
              rw [hv0] at hVal
              clear hv0
              by_cases ht0 : t < 0
              · clear hok hL hC hE hTa hbt hb4
                go_wp2_with fail
                refine wp_region_held_drew (S := (fun W => (W.cell? ⟨w.heap.size, 0, none⟩ = some (.int .i64 a.i) ∧ W.cell? ⟨w.heap.size, 1, none⟩ = some (.int .i64 a.s) ∧ W.cell? ⟨w.heap.size, 2, none⟩ = some (.int .i64 a.c) ∧ W.cell? ⟨w.heap.size, 3, none⟩ = some (.int .i64 a.m) ∧ W.cell? ⟨w.heap.size, 4, none⟩ = some (.int .i64 a.e)) ∧ Below wa.heap.size wa W)) (by kernel_rfl) (fiveA_drew hs0.out) (fun hHeld => ?_)
                refine take_plain 0 130 (.agg #[.int .i64 a.i, .int .i64 a.s, .int .i64 a.c, .int .i64 a.m, .int .i64 a.e]) rfl rfl (by kernel_rfl) (by kernel_rfl) (by kernel_rfl) (fun _ _ _ h => h) (by rfl) ?_ hHeld ?_
                · intro w hSw
                  try dsimp only at hSw
                  go_simp
                simp only [Act.put, List.setIfInBounds_toArray, List.set_cons_zero, List.set_cons_succ]
                refine wpAnyH_ready (rs := [1]) (by kernel_rfl) (by simp) ?_
                refine AllReadyH.cons rfl (fun K hK => ?_) AllReadyH.nil
                go_simp
                go_at_call 17
                with_reducible refine (hVal.out _).mono ?_
                rintro e' w' ⟨rfl, hb5⟩
                go_wp2_with fail
                refine hK.out _ _ ?_ (fun hHeld => ?_)
                · exact fiveA_next hHeld hb5
                clear hK K
                refine take_plain 2 132 (.bool false) rfl rfl (by kernel_rfl) (by kernel_rfl) (by kernel_rfl) (fun _ _ _ h => h) (by rfl) ?_ hHeld ?_
                · intro w hSw
                  try dsimp only at hSw
                  go_simp
                simp only [Act.put, List.setIfInBounds_toArray, List.set_cons_zero, List.set_cons_succ]
                refine take_plain 3 133 (.bool false) rfl rfl (by kernel_rfl) (by kernel_rfl) (by kernel_rfl) (fun _ _ _ h => h) (by rfl) ?_ hHeld ?_
                · intro w hSw
                  try dsimp only at hSw
                  go_simp
                simp only [Act.put, List.setIfInBounds_toArray, List.set_cons_zero, List.set_cons_succ]
                refine take_plain 4 134 (.int .i64 t) rfl rfl (by kernel_rfl) (by kernel_rfl) (by kernel_rfl) (fun _ _ _ h => h) (by rfl) ?_ hHeld ?_
                · intro w hSw
                  try dsimp only at hSw
                  go_simp
                simp only [Act.put, List.setIfInBounds_toArray, List.set_cons_zero, List.set_cons_succ]
                refine take_plain 5 135 (.bool true) rfl rfl (by kernel_rfl) (by kernel_rfl) (by kernel_rfl) (fun _ _ _ h => h) (by rfl) ?_ hHeld ?_
                · intro w hSw
                  try dsimp only at hSw
                  go_simp
                simp only [Act.put, List.setIfInBounds_toArray, List.set_cons_zero, List.set_cons_succ]
                refine take_plain 6 136 (.bool true) rfl rfl (by kernel_rfl) (by kernel_rfl) (by kernel_rfl) (fun _ _ _ h => h) (by rfl) ?_ hHeld ?_
                · intro w hSw
                  try dsimp only at hSw
                  go_simp
                simp only [Act.put, List.setIfInBounds_toArray, List.set_cons_zero, List.set_cons_succ]
                refine take_plain 7 137 (.bool true) rfl rfl (by kernel_rfl) (by kernel_rfl) (by kernel_rfl) (fun _ _ _ h => h) (by rfl) ?_ hHeld ?_
                · intro w hSw
                  try dsimp only at hSw
                  go_simp
                simp only [Act.put, List.setIfInBounds_toArray, List.set_cons_zero, List.set_cons_succ]
                refine take_struck 8 138 rfl rfl (by kernel_rfl) (by kernel_rfl) (by kernel_rfl) (fun _ _ _ h => h) (by rfl) hHeld ?_
                simp only [Act.put, List.setIfInBounds_toArray, List.set_cons_zero, List.set_cons_succ]
                refine take_struck 9 139 rfl rfl (by kernel_rfl) (by kernel_rfl) (by kernel_rfl) (fun _ _ _ h => h) (by rfl) hHeld ?_
                simp only [Act.put, List.setIfInBounds_toArray, List.set_cons_zero, List.set_cons_succ]
                refine take_plain 10 140 (.bool true) rfl rfl (by kernel_rfl) (by kernel_rfl) (by kernel_rfl) (fun _ _ _ h => h) (by rfl) ?_ hHeld ?_
                · intro w hSw
                  try dsimp only at hSw
                  go_simp
                simp only [Act.put, List.setIfInBounds_toArray, List.set_cons_zero, List.set_cons_succ]
                refine take_plain 11 141 (.bool true) rfl rfl (by kernel_rfl) (by kernel_rfl) (by kernel_rfl) (fun _ _ _ h => h) (by rfl) ?_ hHeld ?_
                · intro w hSw
                  try dsimp only at hSw
                  go_simp
                simp only [Act.put, List.setIfInBounds_toArray, List.set_cons_zero, List.set_cons_succ]
                refine take_struck 12 142 rfl rfl (by kernel_rfl) (by kernel_rfl) (by kernel_rfl) (fun _ _ _ h => h) (by rfl) hHeld ?_
                simp only [Act.put, List.setIfInBounds_toArray, List.set_cons_zero, List.set_cons_succ]
                refine take_struck 13 143 rfl rfl (by kernel_rfl) (by kernel_rfl) (by kernel_rfl) (fun _ _ _ h => h) (by rfl) hHeld ?_
                simp only [Act.put, List.setIfInBounds_toArray, List.set_cons_zero, List.set_cons_succ]
                refine take_struck 14 144 rfl rfl (by kernel_rfl) (by kernel_rfl) (by kernel_rfl) (fun _ _ _ h => h) (by rfl) hHeld ?_
                simp only [Act.put, List.setIfInBounds_toArray, List.set_cons_zero, List.set_cons_succ]
                refine take_struck 15 145 rfl rfl (by kernel_rfl) (by kernel_rfl) (by kernel_rfl) (fun _ _ _ h => h) (by rfl) hHeld ?_
                simp only [Act.put, List.setIfInBounds_toArray, List.set_cons_zero, List.set_cons_succ]
                refine take_struck 16 146 rfl rfl (by kernel_rfl) (by kernel_rfl) (by kernel_rfl) (fun _ _ _ h => h) (by rfl) hHeld ?_
                simp only [Act.put, List.setIfInBounds_toArray, List.set_cons_zero, List.set_cons_succ]
                refine take_struck 17 147 rfl rfl (by kernel_rfl) (by kernel_rfl) (by kernel_rfl) (fun _ _ _ h => h) (by rfl) hHeld ?_
                simp only [Act.put, List.setIfInBounds_toArray, List.set_cons_zero, List.set_cons_succ]
                refine take_struck 18 148 rfl rfl (by kernel_rfl) (by kernel_rfl) (by kernel_rfl) (fun _ _ _ h => h) (by rfl) hHeld ?_
                simp only [Act.put, List.setIfInBounds_toArray, List.set_cons_zero, List.set_cons_succ]
                refine take_plain 19 149 (.bool true) rfl rfl (by kernel_rfl) (by kernel_rfl) (by kernel_rfl) (fun _ _ _ h => h) (by rfl) ?_ hHeld ?_
                · intro w hSw
                  try dsimp only at hSw
                  go_simp
                simp only [Act.put, List.setIfInBounds_toArray, List.set_cons_zero, List.set_cons_succ]
                refine take_plain 20 10 (.bool true) rfl rfl (by kernel_rfl) (by kernel_rfl) (by kernel_rfl) (fun _ _ _ h => h) (by rfl) ?_ hHeld ?_
                · intro w hSw
                  try dsimp only at hSw
                  go_simp
                simp only [Act.put, List.setIfInBounds_toArray, List.set_cons_zero, List.set_cons_succ]
                refine wpAnyH_done (by kernel_rfl) ?_ _
                have hend := hidden (fiveA_low hHeld)
                clear hHeld hs0
                go_wp2
                go_ret
                exact ⟨rfl, hba.out.trans (hend.out.mono hba.out.size)⟩
              · by_cases ht4 : 40000 < t
                · have ht1 : 0 ≤ t := by omega
                  clear hok hL hC hE hTa hbt hb4
                  go_wp2_with fail
                  refine wp_region_held_drew (S := (fun W => (W.cell? ⟨w.heap.size, 0, none⟩ = some (.int .i64 a.i) ∧ W.cell? ⟨w.heap.size, 1, none⟩ = some (.int .i64 a.s) ∧ W.cell? ⟨w.heap.size, 2, none⟩ = some (.int .i64 a.c) ∧ W.cell? ⟨w.heap.size, 3, none⟩ = some (.int .i64 a.m) ∧ W.cell? ⟨w.heap.size, 4, none⟩ = some (.int .i64 a.e)) ∧ Below wa.heap.size wa W)) (by kernel_rfl) (fiveA_drew hs0.out) (fun hHeld => ?_)
                  refine take_plain 0 130 (.agg #[.int .i64 a.i, .int .i64 a.s, .int .i64 a.c, .int .i64 a.m, .int .i64 a.e]) rfl rfl (by kernel_rfl) (by kernel_rfl) (by kernel_rfl) (fun _ _ _ h => h) (by rfl) ?_ hHeld ?_
                  · intro w hSw
                    try dsimp only at hSw
                    go_simp
                  simp only [Act.put, List.setIfInBounds_toArray, List.set_cons_zero, List.set_cons_succ]
                  refine wpAnyH_ready (rs := [1]) (by kernel_rfl) (by simp) ?_
                  refine AllReadyH.cons rfl (fun K hK => ?_) AllReadyH.nil
                  go_simp
                  go_at_call 17
                  with_reducible refine (hVal.out _).mono ?_
                  rintro e' w' ⟨rfl, hb5⟩
                  go_wp2_with fail
                  refine hK.out _ _ ?_ (fun hHeld => ?_)
                  · exact fiveA_next hHeld hb5
                  clear hK K
                  refine take_plain 2 132 (.bool false) rfl rfl (by kernel_rfl) (by kernel_rfl) (by kernel_rfl) (fun _ _ _ h => h) (by rfl) ?_ hHeld ?_
                  · intro w hSw
                    try dsimp only at hSw
                    go_simp
                  simp only [Act.put, List.setIfInBounds_toArray, List.set_cons_zero, List.set_cons_succ]
                  refine take_plain 3 133 (.bool false) rfl rfl (by kernel_rfl) (by kernel_rfl) (by kernel_rfl) (fun _ _ _ h => h) (by rfl) ?_ hHeld ?_
                  · intro w hSw
                    try dsimp only at hSw
                    go_simp
                  simp only [Act.put, List.setIfInBounds_toArray, List.set_cons_zero, List.set_cons_succ]
                  refine take_plain 4 134 (.int .i64 t) rfl rfl (by kernel_rfl) (by kernel_rfl) (by kernel_rfl) (fun _ _ _ h => h) (by rfl) ?_ hHeld ?_
                  · intro w hSw
                    try dsimp only at hSw
                    go_simp
                  simp only [Act.put, List.setIfInBounds_toArray, List.set_cons_zero, List.set_cons_succ]
                  refine take_plain 5 135 (.bool false) rfl rfl (by kernel_rfl) (by kernel_rfl) (by kernel_rfl) (fun _ _ _ h => h) (by rfl) ?_ hHeld ?_
                  · intro w hSw
                    try dsimp only at hSw
                    go_simp
                  simp only [Act.put, List.setIfInBounds_toArray, List.set_cons_zero, List.set_cons_succ]
                  refine take_plain 6 136 (.bool false) rfl rfl (by kernel_rfl) (by kernel_rfl) (by kernel_rfl) (fun _ _ _ h => h) (by rfl) ?_ hHeld ?_
                  · intro w hSw
                    try dsimp only at hSw
                    go_simp
                  simp only [Act.put, List.setIfInBounds_toArray, List.set_cons_zero, List.set_cons_succ]
                  refine take_plain 7 137 (.bool false) rfl rfl (by kernel_rfl) (by kernel_rfl) (by kernel_rfl) (fun _ _ _ h => h) (by rfl) ?_ hHeld ?_
                  · intro w hSw
                    try dsimp only at hSw
                    go_simp
                  simp only [Act.put, List.setIfInBounds_toArray, List.set_cons_zero, List.set_cons_succ]
                  refine take_plain 8 138 (.int .i64 t) rfl rfl (by kernel_rfl) (by kernel_rfl) (by kernel_rfl) (fun _ _ _ h => h) (by rfl) ?_ hHeld ?_
                  · intro w hSw
                    try dsimp only at hSw
                    go_simp
                  simp only [Act.put, List.setIfInBounds_toArray, List.set_cons_zero, List.set_cons_succ]
                  refine take_plain 9 139 (.bool true) rfl rfl (by kernel_rfl) (by kernel_rfl) (by kernel_rfl) (fun _ _ _ h => h) (by rfl) ?_ hHeld ?_
                  · intro w hSw
                    try dsimp only at hSw
                    go_simp
                  simp only [Act.put, List.setIfInBounds_toArray, List.set_cons_zero, List.set_cons_succ]
                  refine take_plain 10 140 (.bool true) rfl rfl (by kernel_rfl) (by kernel_rfl) (by kernel_rfl) (fun _ _ _ h => h) (by rfl) ?_ hHeld ?_
                  · intro w hSw
                    try dsimp only at hSw
                    go_simp
                  simp only [Act.put, List.setIfInBounds_toArray, List.set_cons_zero, List.set_cons_succ]
                  refine take_plain 11 141 (.bool true) rfl rfl (by kernel_rfl) (by kernel_rfl) (by kernel_rfl) (fun _ _ _ h => h) (by rfl) ?_ hHeld ?_
                  · intro w hSw
                    try dsimp only at hSw
                    go_simp
                  simp only [Act.put, List.setIfInBounds_toArray, List.set_cons_zero, List.set_cons_succ]
                  refine take_struck 12 142 rfl rfl (by kernel_rfl) (by kernel_rfl) (by kernel_rfl) (fun _ _ _ h => h) (by rfl) hHeld ?_
                  simp only [Act.put, List.setIfInBounds_toArray, List.set_cons_zero, List.set_cons_succ]
                  refine take_struck 13 143 rfl rfl (by kernel_rfl) (by kernel_rfl) (by kernel_rfl) (fun _ _ _ h => h) (by rfl) hHeld ?_
                  simp only [Act.put, List.setIfInBounds_toArray, List.set_cons_zero, List.set_cons_succ]
                  refine take_struck 14 144 rfl rfl (by kernel_rfl) (by kernel_rfl) (by kernel_rfl) (fun _ _ _ h => h) (by rfl) hHeld ?_
                  simp only [Act.put, List.setIfInBounds_toArray, List.set_cons_zero, List.set_cons_succ]
                  refine take_struck 15 145 rfl rfl (by kernel_rfl) (by kernel_rfl) (by kernel_rfl) (fun _ _ _ h => h) (by rfl) hHeld ?_
                  simp only [Act.put, List.setIfInBounds_toArray, List.set_cons_zero, List.set_cons_succ]
                  refine take_struck 16 146 rfl rfl (by kernel_rfl) (by kernel_rfl) (by kernel_rfl) (fun _ _ _ h => h) (by rfl) hHeld ?_
                  simp only [Act.put, List.setIfInBounds_toArray, List.set_cons_zero, List.set_cons_succ]
                  refine take_struck 17 147 rfl rfl (by kernel_rfl) (by kernel_rfl) (by kernel_rfl) (fun _ _ _ h => h) (by rfl) hHeld ?_
                  simp only [Act.put, List.setIfInBounds_toArray, List.set_cons_zero, List.set_cons_succ]
                  refine take_struck 18 148 rfl rfl (by kernel_rfl) (by kernel_rfl) (by kernel_rfl) (fun _ _ _ h => h) (by rfl) hHeld ?_
                  simp only [Act.put, List.setIfInBounds_toArray, List.set_cons_zero, List.set_cons_succ]
                  refine take_plain 19 149 (.bool true) rfl rfl (by kernel_rfl) (by kernel_rfl) (by kernel_rfl) (fun _ _ _ h => h) (by rfl) ?_ hHeld ?_
                  · intro w hSw
                    try dsimp only at hSw
                    go_simp
                  simp only [Act.put, List.setIfInBounds_toArray, List.set_cons_zero, List.set_cons_succ]
                  refine take_plain 20 10 (.bool true) rfl rfl (by kernel_rfl) (by kernel_rfl) (by kernel_rfl) (fun _ _ _ h => h) (by rfl) ?_ hHeld ?_
                  · intro w hSw
                    try dsimp only at hSw
                    go_simp
                  simp only [Act.put, List.setIfInBounds_toArray, List.set_cons_zero, List.set_cons_succ]
                  refine wpAnyH_done (by kernel_rfl) ?_ _
                  have hend := hidden (fiveA_low hHeld)
                  clear hHeld hs0
                  go_wp2
                  go_ret
                  exact ⟨rfl, hba.out.trans (hend.out.mono hba.out.size)⟩
                · have ht1 : 0 ≤ t := by omega
                  have ht2 : t ≤ 40000 := by omega
                  have hOf := hidden (fun W hL (hb : Below wa.heap.size wa W) => of_anyC A W wa.heap.size g l.length T fx hL a t (by omega) (by omega) (hE.out.below hb (Nat.le_refl _)) (hTa.out.below hb (Nat.le_refl _)))
                  have hRo := hidden (fun W hC => refCutOf_any W h T fx hC a t hok ht1 ht2)
                  clear hok hE hTa hbt hb4
                  generalize cutV T fx a t = cv at *
                  go_wp2_with fail
                  replace hL := hidden (LadAt.same (w' := World.drew _) hL.out fun _ _ => rfl)
                  replace hC := hidden (CutsAt.block (w' := World.drew _) hC.out rfl)
                  refine wp_region_held_drew (S := (fun W => (W.cell? ⟨w.heap.size, 0, none⟩ = some (.int .i64 a.i) ∧ W.cell? ⟨w.heap.size, 1, none⟩ = some (.int .i64 a.s) ∧ W.cell? ⟨w.heap.size, 2, none⟩ = some (.int .i64 a.c) ∧ W.cell? ⟨w.heap.size, 3, none⟩ = some (.int .i64 a.m) ∧ W.cell? ⟨w.heap.size, 4, none⟩ = some (.int .i64 a.e)) ∧ Below wa.heap.size wa W)) (by kernel_rfl) (fiveA_drew hs0.out) (fun hHeld => ?_)
                  refine take_plain 0 130 (.agg #[.int .i64 a.i, .int .i64 a.s, .int .i64 a.c, .int .i64 a.m, .int .i64 a.e]) rfl rfl (by kernel_rfl) (by kernel_rfl) (by kernel_rfl) (fun _ _ _ h => h) (by rfl) ?_ hHeld ?_
                  · intro w hSw
                    try dsimp only at hSw
                    go_simp
                  simp only [Act.put, List.setIfInBounds_toArray, List.set_cons_zero, List.set_cons_succ]
                  refine wpAnyH_ready (rs := [1]) (by kernel_rfl) (by simp) ?_
                  refine AllReadyH.cons rfl (fun K hK => ?_) AllReadyH.nil
                  go_simp
                  go_at_call 17
                  with_reducible refine (hVal.out _).mono ?_
                  rintro e' w' ⟨rfl, hb5⟩
                  replace hL := hidden (hL.out.below hb5 (Nat.le_refl _))
                  replace hC := hidden (hC.out.below hb5)
                  go_wp2_with fail
                  refine hK.out _ _ ?_ (fun hHeld => ?_)
                  · exact fiveA_next hHeld hb5
                  clear hK K
                  refine take_plain 2 132 (.bool false) rfl rfl (by kernel_rfl) (by kernel_rfl) (by kernel_rfl) (fun _ _ _ h => h) (by rfl) ?_ hHeld ?_
                  · intro w hSw
                    try dsimp only at hSw
                    go_simp
                  simp only [Act.put, List.setIfInBounds_toArray, List.set_cons_zero, List.set_cons_succ]
                  refine take_plain 3 133 (.bool false) rfl rfl (by kernel_rfl) (by kernel_rfl) (by kernel_rfl) (fun _ _ _ h => h) (by rfl) ?_ hHeld ?_
                  · intro w hSw
                    try dsimp only at hSw
                    go_simp
                  simp only [Act.put, List.setIfInBounds_toArray, List.set_cons_zero, List.set_cons_succ]
                  refine take_plain 4 134 (.int .i64 t) rfl rfl (by kernel_rfl) (by kernel_rfl) (by kernel_rfl) (fun _ _ _ h => h) (by rfl) ?_ hHeld ?_
                  · intro w hSw
                    try dsimp only at hSw
                    go_simp
                  simp only [Act.put, List.setIfInBounds_toArray, List.set_cons_zero, List.set_cons_succ]
                  refine take_plain 5 135 (.bool false) rfl rfl (by kernel_rfl) (by kernel_rfl) (by kernel_rfl) (fun _ _ _ h => h) (by rfl) ?_ hHeld ?_
                  · intro w hSw
                    try dsimp only at hSw
                    go_simp
                  simp only [Act.put, List.setIfInBounds_toArray, List.set_cons_zero, List.set_cons_succ]
                  refine take_plain 6 136 (.bool false) rfl rfl (by kernel_rfl) (by kernel_rfl) (by kernel_rfl) (fun _ _ _ h => h) (by rfl) ?_ hHeld ?_
                  · intro w hSw
                    try dsimp only at hSw
                    go_simp
                  simp only [Act.put, List.setIfInBounds_toArray, List.set_cons_zero, List.set_cons_succ]
                  refine take_plain 7 137 (.bool false) rfl rfl (by kernel_rfl) (by kernel_rfl) (by kernel_rfl) (fun _ _ _ h => h) (by rfl) ?_ hHeld ?_
                  · intro w hSw
                    try dsimp only at hSw
                    go_simp
                  simp only [Act.put, List.setIfInBounds_toArray, List.set_cons_zero, List.set_cons_succ]
                  refine take_plain 8 138 (.int .i64 t) rfl rfl (by kernel_rfl) (by kernel_rfl) (by kernel_rfl) (fun _ _ _ h => h) (by rfl) ?_ hHeld ?_
                  · intro w hSw
                    try dsimp only at hSw
                    go_simp
                  simp only [Act.put, List.setIfInBounds_toArray, List.set_cons_zero, List.set_cons_succ]
                  refine take_plain 9 139 (.bool false) rfl rfl (by kernel_rfl) (by kernel_rfl) (by kernel_rfl) (fun _ _ _ h => h) (by rfl) ?_ hHeld ?_
                  · intro w hSw
                    try dsimp only at hSw
                    go_simp
                  simp only [Act.put, List.setIfInBounds_toArray, List.set_cons_zero, List.set_cons_succ]
                  refine take_plain 10 140 (.bool false) rfl rfl (by kernel_rfl) (by kernel_rfl) (by kernel_rfl) (fun _ _ _ h => h) (by rfl) ?_ hHeld ?_
                  · intro w hSw
                    try dsimp only at hSw
                    go_simp
                  simp only [Act.put, List.setIfInBounds_toArray, List.set_cons_zero, List.set_cons_succ]
                  refine take_plain 11 141 (.bool false) rfl rfl (by kernel_rfl) (by kernel_rfl) (by kernel_rfl) (fun _ _ _ h => h) (by rfl) ?_ hHeld ?_
                  · intro w hSw
                    try dsimp only at hSw
                    go_simp
                  simp only [Act.put, List.setIfInBounds_toArray, List.set_cons_zero, List.set_cons_succ]
                  refine take_plain 12 142 (.agg #[.int .i64 a.i, .int .i64 a.s, .int .i64 a.c, .int .i64 a.m, .int .i64 a.e]) rfl rfl (by kernel_rfl) (by kernel_rfl) (by kernel_rfl) (fun _ _ _ h => h) (by rfl) ?_ hHeld ?_
                  · intro w hSw
                    try dsimp only at hSw
                    go_simp
                  simp only [Act.put, List.setIfInBounds_toArray, List.set_cons_zero, List.set_cons_succ]
                  refine take_plain 13 143 (.int .i64 t) rfl rfl (by kernel_rfl) (by kernel_rfl) (by kernel_rfl) (fun _ _ _ h => h) (by rfl) ?_ hHeld ?_
                  · intro w hSw
                    try dsimp only at hSw
                    go_simp
                  simp only [Act.put, List.setIfInBounds_toArray, List.set_cons_zero, List.set_cons_succ]
                  refine take_plain 15 145 (.agg #[.int .i64 a.i, .int .i64 a.s, .int .i64 a.c, .int .i64 a.m, .int .i64 a.e]) rfl rfl (by kernel_rfl) (by kernel_rfl) (by kernel_rfl) (fun _ _ _ h => h) (by rfl) ?_ hHeld ?_
                  · intro w hSw
                    try dsimp only at hSw
                    go_simp
                  simp only [Act.put, List.setIfInBounds_toArray, List.set_cons_zero, List.set_cons_succ]
                  refine take_plain 16 146 (.int .i64 t) rfl rfl (by kernel_rfl) (by kernel_rfl) (by kernel_rfl) (fun _ _ _ h => h) (by rfl) ?_ hHeld ?_
                  · intro w hSw
                    try dsimp only at hSw
                    go_simp
                  simp only [Act.put, List.setIfInBounds_toArray, List.set_cons_zero, List.set_cons_succ]
                  refine wpAnyH_ready (rs := [14]) (by kernel_rfl) (by simp) ?_
                  refine AllReadyH.cons rfl (fun K hK => ?_) AllReadyH.nil
                  go_simp
                  go_at_call 18
                  with_reducible refine (hOf.out _ hL.out (fiveA_low hHeld)).mono ?_
                  rintro e' w' ⟨rfl, hb5⟩
                  replace hL := hidden (hL.out.below hb5 (Nat.le_refl _))
                  replace hC := hidden (hC.out.below hb5)
                  go_wp2_with fail
                  refine hK.out _ _ ?_ (fun hHeld => ?_)
                  · exact fiveA_next hHeld hb5
                  clear hK K
                  refine wpAnyH_ready (rs := [17]) (by kernel_rfl) (by simp) ?_
                  refine AllReadyH.cons rfl (fun K hK => ?_) AllReadyH.nil
                  go_simp
                  go_at_call 19
                  with_reducible refine (hRo.out _ hC.out).mono ?_
                  rintro e' w' ⟨rfl, hb5⟩
                  replace hL := hidden (hL.out.below hb5 (Nat.le_refl _))
                  replace hC := hidden (hC.out.below hb5)
                  go_wp2_with fail
                  refine hK.out _ _ ?_ (fun hHeld => ?_)
                  · exact fiveA_next hHeld hb5
                  clear hK K
                  refine take_plain 18 148 (.bool true) rfl rfl (by kernel_rfl) (by kernel_rfl) (by kernel_rfl) (fun _ _ _ h => h) (by rfl) ?_ hHeld ?_
                  · intro w hSw
                    try dsimp only at hSw
                    go_simp
                  simp only [Act.put, List.setIfInBounds_toArray, List.set_cons_zero, List.set_cons_succ]
                  refine take_plain 19 149 (.bool true) rfl rfl (by kernel_rfl) (by kernel_rfl) (by kernel_rfl) (fun _ _ _ h => h) (by rfl) ?_ hHeld ?_
                  · intro w hSw
                    try dsimp only at hSw
                    go_simp
                  simp only [Act.put, List.setIfInBounds_toArray, List.set_cons_zero, List.set_cons_succ]
                  refine take_plain 20 10 (.bool true) rfl rfl (by kernel_rfl) (by kernel_rfl) (by kernel_rfl) (fun _ _ _ h => h) (by rfl) ?_ hHeld ?_
                  · intro w hSw
                    try dsimp only at hSw
                    go_simp
                  simp only [Act.put, List.setIfInBounds_toArray, List.set_cons_zero, List.set_cons_succ]
                  refine wpAnyH_done (by kernel_rfl) ?_ _
                  have hend := hidden (fiveA_low hHeld)
                  clear hHeld hs0 hOf hRo hVal
                  go_wp2
                  go_ret
                  exact ⟨rfl, hba.out.trans (hend.out.mono hba.out.size)⟩
            · rw [vC_no hok] at hVal
              clear hok hL hC hE hTa hbt hb4
              go_wp2_with fail
              refine wp_region_held_drew (S := (fun W => (W.cell? ⟨w.heap.size, 0, none⟩ = some (.int .i64 a.i) ∧ W.cell? ⟨w.heap.size, 1, none⟩ = some (.int .i64 a.s) ∧ W.cell? ⟨w.heap.size, 2, none⟩ = some (.int .i64 a.c) ∧ W.cell? ⟨w.heap.size, 3, none⟩ = some (.int .i64 a.m) ∧ W.cell? ⟨w.heap.size, 4, none⟩ = some (.int .i64 a.e)) ∧ Below wa.heap.size wa W)) (by kernel_rfl) (fiveA_drew hs0.out) (fun hHeld => ?_)
              refine take_plain 0 130 (.agg #[.int .i64 a.i, .int .i64 a.s, .int .i64 a.c, .int .i64 a.m, .int .i64 a.e]) rfl rfl (by kernel_rfl) (by kernel_rfl) (by kernel_rfl) (fun _ _ _ h => h) (by rfl) ?_ hHeld ?_
              · intro w hSw
                try dsimp only at hSw
                go_simp
              simp only [Act.put, List.setIfInBounds_toArray, List.set_cons_zero, List.set_cons_succ]
              refine wpAnyH_ready (rs := [1]) (by kernel_rfl) (by simp) ?_
              refine AllReadyH.cons rfl (fun K hK => ?_) AllReadyH.nil
              go_simp
              go_at_call 17
              with_reducible refine (hVal.out _).mono ?_
              rintro e' w' ⟨rfl, hb5⟩
              go_wp2_with fail
              refine hK.out _ _ ?_ (fun hHeld => ?_)
              · exact fiveA_next hHeld hb5
              clear hK K
              refine take_plain 2 132 (.bool true) rfl rfl (by kernel_rfl) (by kernel_rfl) (by kernel_rfl) (fun _ _ _ h => h) (by rfl) ?_ hHeld ?_
              · intro w hSw
                try dsimp only at hSw
                go_simp
              simp only [Act.put, List.setIfInBounds_toArray, List.set_cons_zero, List.set_cons_succ]
              refine take_plain 3 133 (.bool true) rfl rfl (by kernel_rfl) (by kernel_rfl) (by kernel_rfl) (fun _ _ _ h => h) (by rfl) ?_ hHeld ?_
              · intro w hSw
                try dsimp only at hSw
                go_simp
              simp only [Act.put, List.setIfInBounds_toArray, List.set_cons_zero, List.set_cons_succ]
              refine take_struck 4 134 rfl rfl (by kernel_rfl) (by kernel_rfl) (by kernel_rfl) (fun _ _ _ h => h) (by rfl) hHeld ?_
              simp only [Act.put, List.setIfInBounds_toArray, List.set_cons_zero, List.set_cons_succ]
              refine take_struck 5 135 rfl rfl (by kernel_rfl) (by kernel_rfl) (by kernel_rfl) (fun _ _ _ h => h) (by rfl) hHeld ?_
              simp only [Act.put, List.setIfInBounds_toArray, List.set_cons_zero, List.set_cons_succ]
              refine take_plain 6 136 (.bool true) rfl rfl (by kernel_rfl) (by kernel_rfl) (by kernel_rfl) (fun _ _ _ h => h) (by rfl) ?_ hHeld ?_
              · intro w hSw
                try dsimp only at hSw
                go_simp
              simp only [Act.put, List.setIfInBounds_toArray, List.set_cons_zero, List.set_cons_succ]
              refine take_plain 7 137 (.bool true) rfl rfl (by kernel_rfl) (by kernel_rfl) (by kernel_rfl) (fun _ _ _ h => h) (by rfl) ?_ hHeld ?_
              · intro w hSw
                try dsimp only at hSw
                go_simp
              simp only [Act.put, List.setIfInBounds_toArray, List.set_cons_zero, List.set_cons_succ]
              refine take_struck 8 138 rfl rfl (by kernel_rfl) (by kernel_rfl) (by kernel_rfl) (fun _ _ _ h => h) (by rfl) hHeld ?_
              simp only [Act.put, List.setIfInBounds_toArray, List.set_cons_zero, List.set_cons_succ]
              refine take_struck 9 139 rfl rfl (by kernel_rfl) (by kernel_rfl) (by kernel_rfl) (fun _ _ _ h => h) (by rfl) hHeld ?_
              simp only [Act.put, List.setIfInBounds_toArray, List.set_cons_zero, List.set_cons_succ]
              refine take_plain 10 140 (.bool true) rfl rfl (by kernel_rfl) (by kernel_rfl) (by kernel_rfl) (fun _ _ _ h => h) (by rfl) ?_ hHeld ?_
              · intro w hSw
                try dsimp only at hSw
                go_simp
              simp only [Act.put, List.setIfInBounds_toArray, List.set_cons_zero, List.set_cons_succ]
              refine take_plain 11 141 (.bool true) rfl rfl (by kernel_rfl) (by kernel_rfl) (by kernel_rfl) (fun _ _ _ h => h) (by rfl) ?_ hHeld ?_
              · intro w hSw
                try dsimp only at hSw
                go_simp
              simp only [Act.put, List.setIfInBounds_toArray, List.set_cons_zero, List.set_cons_succ]
              refine take_struck 12 142 rfl rfl (by kernel_rfl) (by kernel_rfl) (by kernel_rfl) (fun _ _ _ h => h) (by rfl) hHeld ?_
              simp only [Act.put, List.setIfInBounds_toArray, List.set_cons_zero, List.set_cons_succ]
              refine take_struck 13 143 rfl rfl (by kernel_rfl) (by kernel_rfl) (by kernel_rfl) (fun _ _ _ h => h) (by rfl) hHeld ?_
              simp only [Act.put, List.setIfInBounds_toArray, List.set_cons_zero, List.set_cons_succ]
              refine take_struck 14 144 rfl rfl (by kernel_rfl) (by kernel_rfl) (by kernel_rfl) (fun _ _ _ h => h) (by rfl) hHeld ?_
              simp only [Act.put, List.setIfInBounds_toArray, List.set_cons_zero, List.set_cons_succ]
              refine take_struck 15 145 rfl rfl (by kernel_rfl) (by kernel_rfl) (by kernel_rfl) (fun _ _ _ h => h) (by rfl) hHeld ?_
              simp only [Act.put, List.setIfInBounds_toArray, List.set_cons_zero, List.set_cons_succ]
              refine take_struck 16 146 rfl rfl (by kernel_rfl) (by kernel_rfl) (by kernel_rfl) (fun _ _ _ h => h) (by rfl) hHeld ?_
              simp only [Act.put, List.setIfInBounds_toArray, List.set_cons_zero, List.set_cons_succ]
              refine take_struck 17 147 rfl rfl (by kernel_rfl) (by kernel_rfl) (by kernel_rfl) (fun _ _ _ h => h) (by rfl) hHeld ?_
              simp only [Act.put, List.setIfInBounds_toArray, List.set_cons_zero, List.set_cons_succ]
              refine take_struck 18 148 rfl rfl (by kernel_rfl) (by kernel_rfl) (by kernel_rfl) (fun _ _ _ h => h) (by rfl) hHeld ?_
              simp only [Act.put, List.setIfInBounds_toArray, List.set_cons_zero, List.set_cons_succ]
              refine take_plain 19 149 (.bool true) rfl rfl (by kernel_rfl) (by kernel_rfl) (by kernel_rfl) (fun _ _ _ h => h) (by rfl) ?_ hHeld ?_
              · intro w hSw
                try dsimp only at hSw
                go_simp
              simp only [Act.put, List.setIfInBounds_toArray, List.set_cons_zero, List.set_cons_succ]
              refine take_plain 20 10 (.bool true) rfl rfl (by kernel_rfl) (by kernel_rfl) (by kernel_rfl) (fun _ _ _ h => h) (by rfl) ?_ hHeld ?_
              · intro w hSw
                try dsimp only at hSw
                go_simp
              simp only [Act.put, List.setIfInBounds_toArray, List.set_cons_zero, List.set_cons_succ]
              refine wpAnyH_done (by kernel_rfl) ?_ _
              have hend := hidden (fiveA_low hHeld)
              clear hHeld hs0
              go_wp2
              go_ret
              exact ⟨rfl, hba.out.trans (hend.out.mono hba.out.size)⟩
end Go.Proofs.YthlepeeejmeahaaDoor
