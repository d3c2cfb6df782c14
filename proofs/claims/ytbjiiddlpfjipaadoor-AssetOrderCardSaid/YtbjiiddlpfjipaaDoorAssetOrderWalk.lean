import Derived.Test.YtbjiiddlpfjipaaDoorAssetOrderMath
import Derived.Test.YtbjiiddlpfjipaaDoorAsset4
import Derived.Test.YtbjiiddlpfjipaaDoorLaidOn
import Derived.Test.YtbjiiddlpfjipaaDoorNumber
import Derived.Deep.DeepCutAuto
import Derived.Deep.CutBlock
namespace Go.Proofs.YtbjiiddlpfjipaaDoor
open Go.RowKit
set_option linter.unusedVariables false

def InRel (N P : Int) (i : Nat) (w0 : World) (sb v : Value) (w : World) : Prop := ∃ k : Nat, k ≤ i ∧ v = .int .i64 (k : Int) ∧ sb = .bool (stB N P i k) ∧ ∃ m, w = w0.drewN m
def OutRel (N P : Int) (g : Nat) (w0 : World) (v : Value) (w : World) : Prop := ∃ i : Nat, (i : Int) ≤ N ∧ v = .int .i64 (i : Int) ∧ TabAt w g (stTab N P i) ∧ Below w0.heap.size w0 w
def SortRel (n : Nat) (w0 : World) (v : Value) (w : World) : Prop := ∃ k : Nat, k < n ∧ v = .int .i64 ((k : Int) + 1) ∧ ∃ m, w = w0.drewN m
theorem steps_bd : ∀ k, k < 5 → 1 ≤ ([1, 5, 7, 11, 35] : List Int).getD k 0 ∧ ([1, 5, 7, 11, 35] : List Int).getD k 0 ≤ 35 := by decide
theorem stM_bd {k : Nat} {P : Int} (hk : (k : Int) ≤ 32) (h1 : 1 ≤ P) (h2 : P ≤ 35) : 0 ≤ (k : Int) * P ∧ (k : Int) * P ≤ 1120 := by
  constructor
  · exact Int.mul_nonneg (by omega) (by omega)
  · calc (k : Int) * P ≤ 32 * 35 := Int.mul_le_mul hk h2 (by omega) (by omega)
      _ = 1120 := by decide
set_option maxRecDepth 100000 in
set_option maxHeartbeats 8000000 in
theorem walk_assetOrder (n s : Int) (A : Nat → Addr) (w : World) (n0 : -9223372036854775808 ≤ n) (n1 : n ≤ 9223372036854775807) (s0 : -9223372036854775808 ≤ s) (s1 : s ≤ 9223372036854775807) (hS : Sents w A) :
    Calls Tryd.prog 4 #[.int .i64 n, .int .i64 s] w fun r w' => r = .returned (.bool true) ∧ Below w.heap.size w w' := by
  have hI := hidden (fun W (h : Below w.heap.size w W) => is_any A 107 107 W (hS.below h (Nat.le_refl _)) (.inr (by decide)))
  have hE := hidden (fun W (h : Below w.heap.size w W) => (hS.on [2, 6] (by decide)).below h (Nat.le_refl _))
  have hz := hidden master_zero
  have hNn := hidden (fun w => number_any n 32 w n0 n1 (by decide) (by decide))
  have hNs := hidden (fun w => number_any s 5 w s0 s1 (by decide) (by decide))
  have x0 : 0 ≤ n % 32 := by omega
  have x1 : n % 32 ≤ 31 := by omega
  obtain ⟨q, hq⟩ : ∃ q : Nat, s % 5 = (q : Int) := ⟨(s % 5).toNat, by omega⟩
  have q1 : q < 5 := by omega
  have q2 : (q : Int) < 5 := by omega
  rw [hq] at hNs
  clear hS n0 n1 s0 s1 hq
  generalize n % 32 = x at *
  go_enter Tryd.func4, Tryd.ntmps4
  go_wp2_with fail
  refine (law10_first w).mono ?_
  rintro r w1 ⟨rfl, hb⟩
  have hb1 := hidden (hb.alloc hb.size (.cells #[.int .i64 1, .int .i64 5, .int .i64 7, .int .i64 11, .int .i64 35] 3))
  have hrd := hidden (reads_new (k := .i64) (w := w1) (e := 3) #[.int .i64 1, .int .i64 5, .int .i64 7, .int .i64 11, .int .i64 35] [1, 5, 7, 11, 35] 5 rfl rfl (by decide))
  clear hb
  obtain ⟨b, o, e, hc⟩ := hrd.out.cell q q1
  simp only [Option.some.injEq, Addr.mk.injEq, and_true] at e
  obtain ⟨rfl, rfl⟩ := e
  obtain ⟨p1, p2⟩ := steps_bd q q1
  generalize ([1, 5, 7, 11, 35] : List Int).getD q 0 = P at *
  simp only [Nat.zero_add] at hc
  clear hrd
  obtain ⟨N, hN⟩ : ∃ N, x + 1 = N := ⟨_, rfl⟩
  have N0 : 1 ≤ N := by omega
  have N1 : N ≤ 32 := by omega
  have hn := hidden (tabAt_new (w1.alloc (.cells #[.int .i64 1, .int .i64 5, .int .i64 7, .int .i64 11, .int .i64 35] 3)))
  have hb2 := hidden (hb1.out.alloc hb1.out.size (.cells tabF 28))
  have hg := hidden (show w.heap.size ≤ w1.heap.size + 1 by have := hb1.out.size; simpa using this)
  rw [show (w1.alloc (.cells #[.int .i64 1, .int .i64 5, .int .i64 7, .int .i64 11, .int .i64 35] 3)).heap.size = w1.heap.size + 1 by simp] at hn
  generalize tabF = F at *
  have hzz := hz.out
  go_wp2_with (first
    | (go_at_call 23; with_reducible refine (hNn.out _).mono ?_; rintro e w' ⟨rfl, rfl⟩)
    | (go_at_call 23; with_reducible refine (hNs.out _).mono ?_; rintro e w' ⟨rfl, rfl⟩))
  clear hNn hNs hzz hz hc hN x0 x1
  generalize w1.heap.size + 1 = g at *
  go_loopw [7] (fun v wr => OutRel N P g w v wr) (fun v _ => 33 - (intOf v).toNat)
  case atStart => exact ⟨0, by omega, rfl, hn.out, hb2.out⟩
  case round =>
    obtain ⟨i, hi, rfl, hT, hb⟩ := hrel
    clear hn hb1 hb2
    by_cases hlt : (i : Int) < N
    · have hok := stA_ok (P := P) N0 N1 i
      have hcc := hidden (stC (P := P) N0 N1 i)
      obtain ⟨m1, m2⟩ := stM_bd (k := i) (show (i : Int) ≤ 32 by omega) p1 p2
      obtain ⟨f1, f2⟩ := stF_bd (P := P) N0 i
      have hF : (i : Int) * P % N = stF N P i := rfl
      have hF2 : ((i : Int) * P).tmod N = stF N P i := by rw [Int.tmod_eq_emod_of_nonneg m1]; rfl
      have hAA := hidden (show stA N P i = ⟨stF N P i + 1, (i : Int) % 3, 2, 1, 0⟩ from rfl)
      have hin := hidden (fun k (hk : k < i) => show (stB N P i k = true ∧ stB N P i (k + 1) = true) ∨ (stB N P i k = false ∧ stB N P i (k + 1) = (stF N P k == stF N P i)) by
        rw [stB_next]
        cases stB N P i k <;> simp)
      have hb0 := hidden (stB_zero N P i)
      generalize hFF : stF N P i = Fi at *
      have ha := hidden (asAt_new wr ⟨Fi + 1, (i : Int) % 3, 2, 1, 0⟩)
      replace hT := hidden (hT.below (below_as wr ⟨Fi + 1, (i : Int) % 3, 2, 1, 0⟩))
      replace hb := hidden (hb.alloc hb.size (asO ⟨Fi + 1, (i : Int) % 3, 2, 1, 0⟩))
      have fi2 : Fi ≤ 31 := by omega
      clear hok hFF
      go_upto_block 2 with (fail)
      generalize wr.alloc (asO ⟨Fi + 1, (i : Int) % 3, 2, 1, 0⟩) = wa at *
      go_cut [9] (fun s9 wx => s9 = .bool (stB N P i i) ∧ ∃ m, wx = wa.drewN m)
      case first =>
        clear hI hE hcc ha hT hb
        go_wp2_with fail
        go_loopw [9, 10] (fun sb v wx => InRel N P i wa sb v wx) (fun _ v _ => i - (intOf v).toNat)
        case atStart => exact ⟨0, Nat.zero_le _, rfl, by rw [hb0.out], 0, rfl⟩
        case round =>
          obtain ⟨k, hk, rfl, rfl, m, rfl⟩ := hrel
          clear hb0
          by_cases hkl : k < i
          · have hkI : (k : Int) < (i : Int) := by omega
            obtain ⟨n1, n2⟩ := stM_bd (k := k) (show (k : Int) ≤ 32 by omega) p1 p2
            obtain ⟨g1, g2⟩ := stF_bd (P := P) N0 k
            have hG : (k : Int) * P % N = stF N P k := rfl
            have hG2 : ((k : Int) * P).tmod N = stF N P k := by rw [Int.tmod_eq_emod_of_nonneg n1]; rfl
            have hw1 : IntKind.i64.wrap ((k : Int) * P) = (k : Int) * P := Go.IntWalk.i64_in _ (by omega)
            have hw2 : IntKind.i64.wrap ((i : Int) * P) = (i : Int) * P := Go.IntWalk.i64_in _ (by omega)
            have hi2 := hin.out k hkl
            generalize hGG : stF N P k = Fk at *
            clear hin hGG
            rcases hi2 with ⟨d1, d2⟩ | ⟨d1, d2⟩
            · rw [d1]
              replace d2 := hidden d2
              clear d1
              go_wp2_with fail
              go_quiet (fail)
              go_wp2
              go_roundw
              case rel => exact ⟨k + 1, hkl, by go_num, by rw [d2.out], _, rfl⟩
              case measure => simp [intOf]; omega
            · rw [d1]
              replace d2 := hidden d2
              clear d1
              go_wp2_with fail
              go_quiet (fail)
              go_wp2
              go_roundw
              case rel => exact ⟨k + 1, hkl, by go_num, by rw [d2.out], _, rfl⟩
              case measure => simp [intOf]; omega
          · obtain rfl : k = i := by omega
            go_wp2
            go_meet
            exact ⟨rfl, m, rfl⟩
      case rest =>
        obtain ⟨rfl, m, rfl⟩ := hcut
        clear hb0 hin
        replace hT := hidden (hT.out.drewN m)
        replace hb := hidden (below_drewN (m := m) hb.out)
        replace ha := hidden (show AsAt (wa.drewN m) wr.heap.size ⟨Fi + 1, (i : Int) % 3, 2, 1, 0⟩ from ⟨ha.out.row⟩)
        generalize wa.drewN m = wb at *
        obtain ⟨a0, a1, a2, a3, a4⟩ := ha.out.cells
        simp only at a0 a1 a2 a3 a4
        have hA := hidden (add_any10 A (stTab N P i) g (stA N P i) wb hT.out (hE.out _ hb.out))
        unfold AddAt at hA
        rw [hcc.out, show nextT (stTab N P i) (stA N P i) = stTab N P (i + 1) from rfl, hAA.out] at hA
        have hI7 := hidden (fun W h => hI.out W h)
        cases hd : stB N P i i
        · rw [hd, if_neg (by decide), errOf_fine] at hA
          clear hcc hAA hd ha hI hE
          go_wp2_with fail
          refine hA.out.mono ?_
          rintro r w3 ⟨rfl, hT3, ht⟩
          replace hT3 := hidden hT3
          replace hb := hidden (hb.out.trans (ht.below (fun k hk => by rw [hk]; exact hg.out) hb.out.size))
          clear ht hT hA a0 a1 a2 a3 a4
          go_wp2
          go_roundw
          case rel => exact ⟨i + 1, by omega, by go_num, hT3.out, hb.out⟩
          case measure => simp [intOf]; omega
        · rw [hd, if_pos rfl, show errOf A 107 = errAt (A 6) from rfl] at hA
          rw [show errOf A 107 = errAt (A 6) from rfl] at hI7
          clear hcc hAA hd ha hI hE
          go_wp2_with fail
          refine hA.out.mono ?_
          rintro r w3 ⟨rfl, hT3, ht⟩
          replace hT3 := hidden hT3
          replace hb := hidden (hb.out.trans (ht.below (fun k hk => by rw [hk]; exact hg.out) hb.out.size))
          clear ht hT hA a0 a1 a2 a3 a4
          go_wp2_with fail
          refine (hI7.out _ hb.out).mono ?_
          rintro r w4 ⟨rfl, hb4⟩
          replace hT3 := hidden (hT3.out.below hb4)
          replace hb := hidden (hb.out.trans (hb4.mono hb.out.size))
          clear hb4
          go_wp2
          go_roundw
          case rel => exact ⟨i + 1, by omega, by go_num, hT3.out, hb.out⟩
          case measure => simp [intOf]; omega
    · have hiN : N = (i : Int) := by omega
      have hsum := hidden (stTab_sum N P i)
      have hsome := hidden (stTab_some (P := P) N0 N1 (k := i) (by omega))
      have hsort := hidden (fun j k (h1 : j < k) h2 => (stTab_tab N P i).sorted h1 h2)
      have h32 := allA_32 (stTab_tab N P i)
      have hL := hidden (fun W h => all_any (stTab N P i) g W h)
      have hO := hidden (fun s W h => of_any10 (stTab N P i) g s W h)
      unfold OfAt at hO
      clear hI hE hiN
      generalize stTab N P i = T at *
      generalize allA T = L at *
      replace hT := hidden hT
      replace hb := hidden hb
      go_wp2_with fail
      refine (hL.out _ hT.out).mono ?_
      rintro r w3 ⟨v, rfl, hown, hb3⟩
      obtain ⟨va, vc, rfl⟩ := row_slice (hown.row asV_len)
      have hrow := hidden (hown.row asV_len)
      replace hT := hidden (hT.out.below hb3)
      replace hb := hidden (hb.out.trans (hb3.mono hb.out.size))
      clear hown hb3 hL
      go_wp2_with fail
      go_loopw [13] (fun v wx => SortRel L.length w3 v wx) (fun v _ => 33 - (intOf v).toNat)
      case atStart => exact ⟨0, hsome.out, rfl, 0, rfl⟩
      case round =>
        obtain ⟨k, hk, rfl, m, rfl⟩ := hrel
        by_cases hk1 : k + 1 < L.length
        · obtain ⟨b, o, rfl, c0, c1, c2, c3, c4⟩ := rowA_at hrow.out k hk
          obtain ⟨b', o', e', d0, d1, d2, d3, d4⟩ := rowA_at hrow.out (k + 1) hk1
          simp only [Option.some.injEq, Addr.mk.injEq, and_true] at e'
          obtain ⟨rfl, rfl⟩ := e'
          have hso := hsort.out k (k + 1) (Nat.lt_succ_self k) hk1
          have hge : decide ((L.getD (k + 1) asZ).i ≤ (L.getD k asZ).i) = false := decide_eq_false (by omega)
          have hw1 : IntKind.i64.wrap ((k : Int) + 1 - 1) = (k : Int) := by rw [Go.IntWalk.i64_in _ (by omega)]; omega
          have hw0 : IntKind.i64.wrap (k : Int) = (k : Int) := Go.IntWalk.i64_in _ (by omega)
          have hk2 : (k : Int) + 1 < (L.length : Int) := by omega
          have hk0 : (0 : Int) ≤ (k : Int) := by omega
          have hk3 : (0 : Int) ≤ (k : Int) + 1 := by omega
          have hk4 : ((k : Int) + 1).toNat = k + 1 := by omega
          have hkI : (k : Int) < (L.length : Int) := by omega
          have hkm := hidden (show 33 - (intOf (.int .i64 (((k + 1 : Nat) : Int) + 1))).toNat < 33 - (intOf (.int .i64 ((k : Int) + 1))).toNat by simp [intOf]; omega)
          clear hso c1 c2 c3 c4 d1 d2 d3 d4 hsum hsome
          generalize (L.getD k asZ).i = x at *
          generalize (L.getD (k + 1) asZ).i = y at *
          go_wp2_with fail
          go_quiet (fail)
          go_wp2
          go_roundw
          case rel => exact ⟨k + 1, hk1, by go_num, _, rfl⟩
          case measure => simp [intOf]; omega
        · have hk2 : ¬ ((k : Int) + 1 < (L.length : Int)) := by omega
          have hpos : (0 : Int) < (L.length : Int) := by omega
          replace hT := hidden (hT.out.drewN m)
          replace hb := hidden (below_drewN (m := m) hb.out)
          generalize w3.drewN m = w4 at *
          clear hrow hsort hsome
          have hs := hsum.out
          clear hsum
          go_wp2_with fail
          refine (hO.out 0 _ hT.out).mono ?_
          rintro r w5 ⟨v0, rfl, hown, hb5⟩
          obtain ⟨ua0, uc0, rfl⟩ := reads_slice (reads_of_own (k := .i64) hown)
          replace hT := hidden (hT.out.below hb5)
          replace hb := hidden (hb.out.trans (hb5.mono hb.out.size))
          clear hown hb5
          go_wp2_with fail
          refine (hO.out 1 _ hT.out).mono ?_
          rintro r w6 ⟨v1, rfl, hown, hb5⟩
          obtain ⟨ua1, uc1, rfl⟩ := reads_slice (reads_of_own (k := .i64) hown)
          replace hT := hidden (hT.out.below hb5)
          replace hb := hidden (hb.out.trans (hb5.mono hb.out.size))
          clear hown hb5
          go_wp2_with fail
          refine (hO.out 2 _ hT.out).mono ?_
          rintro r w7 ⟨v2, rfl, hown, hb5⟩
          obtain ⟨ua2, uc2, rfl⟩ := reads_slice (reads_of_own (k := .i64) hown)
          replace hT := hidden (hT.out.below hb5)
          replace hb := hidden (hb.out.trans (hb5.mono hb.out.size))
          clear hown hb5
          generalize (ofA L 0).length = l0 at *
          generalize (ofA L 1).length = l1 at *
          generalize (ofA L 2).length = l2 at *
          have hfin : ((l0 : Int) + (l1 : Int) + (l2 : Int) == (L.length : Int)) = true := by rw [beq_iff_eq]; omega
          have b0 : (l0 : Int) ≤ 32 := by omega
          have b1 : (l1 : Int) ≤ 32 := by omega
          have b2 : (l2 : Int) ≤ 32 := by omega
          clear hs
          go_wp2
          go_ret
          exact ⟨rfl, hb.out⟩
end Go.Proofs.YtbjiiddlpfjipaaDoor
