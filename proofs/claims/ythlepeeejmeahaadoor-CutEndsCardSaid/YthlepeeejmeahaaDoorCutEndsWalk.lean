import Derived.Test.YthlepeeejmeahaaDoorCutLaw
import Derived.Test.YthlepeeejmeahaaDoorLaidOn
import Derived.Deep.DeepCutAuto
namespace Go.Proofs.YthlepeeejmeahaaDoor
open Go.RowKit
set_option linter.unusedVariables false

/-- the cuts behind k rounds: of classes 4 and 1. -/
def tabE (z : List Int) : Nat → StepT → Option Int
  | 0 => noT
  | k + 1 => updK (updK (tabE z k) (4, (k : Int)) (z.getD k 0 % 10001)) (1, (k : Int)) (z.getD k 0 % 10001)
theorem tabE_4 (z : List Int) : ∀ k i, i < k → getT (tabE z k) (4, (i : Int)) = z.getD i 0 % 10001
  | 0, i, h => by omega
  | k + 1, i, h => by
    unfold getT tabE
    rw [updK_other _ _ (by simp)]
    by_cases e : i = k
    · subst e
      rw [updK_same]; rfl
    · rw [updK_other _ _ (by simp; omega)]
      exact tabE_4 z k i (by omega)
theorem tabE_1 (z : List Int) : ∀ k i, i < k → getT (tabE z k) (1, (i : Int)) = z.getD i 0 % 10001
  | 0, i, h => by omega
  | k + 1, i, h => by
    unfold getT tabE
    by_cases e : i = k
    · subst e
      rw [updK_same]; rfl
    · rw [updK_other _ _ (by simp; omega), updK_other _ _ (by simp)]
      exact tabE_1 z k i (by omega)
theorem tabE_5 (z : List Int) (b : Int) : ∀ k, getT (tabE z k) (5, b) = 0
  | 0 => rfl
  | k + 1 => by
    unfold getT tabE
    rw [updK_other _ _ (by simp), updK_other _ _ (by simp)]
    exact tabE_5 z b k
theorem tabE_set (z : List Int) (k : Nat) (h : k < 6) : setC (4, (k : Int)) (z.getD k 0 % 10001) = 0 ∧ setC (1, (k : Int)) (z.getD k 0 % 10001) = 0 ∧ setT (setT (tabE z k) (4, (k : Int)) (z.getD k 0 % 10001)) (1, (k : Int)) (z.getD k 0 % 10001) = tabE z (k + 1) := by
  have h4 : stOk (4, (k : Int)) := by unfold stOk; simp only; omega
  have h1 : stOk (1, (k : Int)) := by unfold stOk; simp only; omega
  have hb : bpOk (z.getD k 0 % 10001) := by unfold bpOk; omega
  refine ⟨if_pos ⟨h4, hb⟩, if_pos ⟨h1, hb⟩, ?_⟩
  unfold setT
  rw [if_pos ⟨h1, hb⟩, if_pos ⟨h4, hb⟩]
  rfl
def mostE (j : Nat) : Int := [30, 90, 365, 1095, 3650].getD j 0
theorem most_bk (N : Int) (b j : Nat) (hb : bkD N = (b : Int)) (hj : j < 5) : (N < mostE j ↔ b ≤ j) := by
  unfold bkD at hb
  match j, hj with
  | 0, _ => simp only [mostE, List.getD_cons_zero]; (repeat' split at hb) <;> omega
  | 1, _ => simp only [mostE, List.getD_cons_zero, List.getD_cons_succ]; (repeat' split at hb) <;> omega
  | 2, _ => simp only [mostE, List.getD_cons_zero, List.getD_cons_succ]; (repeat' split at hb) <;> omega
  | 3, _ => simp only [mostE, List.getD_cons_zero, List.getD_cons_succ]; (repeat' split at hb) <;> omega
  | 4, _ => simp only [mostE, List.getD_cons_zero, List.getD_cons_succ]; (repeat' split at hb) <;> omega
def EndRel (z : List Int) (w0 : World) (g : Nat) (i : Value) (w : World) : Prop := ∃ k : Nat, k ≤ 6 ∧ i = .int .i64 (k : Int) ∧ LadAt w w0.heap.size g (k + k) (tabE z k) 0 ∧ Below w0.heap.size w0 w
def MostRel (b : Nat) (w0 : World) (at_ i : Value) (w : World) : Prop := w0 = w ∧ ((∃ j : Nat, j < 5 ∧ i = .int .i64 (j : Int) ∧ at_ = .int .i64 ((max b (j + 1) : Nat) : Int)) ∨ (i = .int .i64 (-1) ∧ at_ = .int .i64 (b : Int)))
/-- what is told of assets of class 4, 1 and 5, behind all rounds. -/
theorem ends_near (z : List Int) (F N : Int) (b : Nat) (hb : bkD N = (b : Int)) (hb6 : b < 6) (h0 : 0 ≤ N) (h1 : N < 9000) (m : Int) (hm : m = 1 ∨ m = 2) :
    cutV (tabE z 6) F ⟨1, 0, 4, m, 100 + N⟩ 100 = min ((if N = 0 then 10000 else z.getD b 0 % 10001) + (if m = 1 then 0 else (if N = 0 then 0 else F))) 10000 := by
  have hok : AsOk ⟨1, 0, 4, m, 100 + N⟩ := by
    unfold AsOk AsIn
    simp only
    omega
  unfold cutV
  rw [if_pos hok]
  by_cases hN : N = 0
  · have hl : lfB (100 + N) 100 = false := by unfold lfB; rw [decide_eq_false_iff_not]; omega
    rw [hl, if_neg (by decide), if_pos hN, if_pos hN]
    split <;> omega
  · have hl : lfB (100 + N) 100 = true := by unfold lfB; rw [decide_eq_true_iff]; omega
    have hv : lfV (100 + N) 100 = N := by unfold lfV; rw [if_neg (by omega), if_neg (by omega)]; omega
    rw [hl, if_pos rfl, if_neg hN, if_neg hN]
    unfold liveCut bkA
    simp only
    rw [if_neg (by decide), if_neg (by omega), hv, hb, tabE_4 z 6 b hb6]
theorem ends_over (T : StepT → Option Int) (F : Int) : cutV T F ⟨1, 0, 4, 1, 100⟩ 101 = 10000 := by
  unfold cutV
  rw [if_pos (by decide), if_neg (by decide)]
theorem ends_none (z : List Int) (F : Int) : cutV (tabE z 6) F ⟨1, 0, 4, 1, 0⟩ 100 = z.getD 5 0 % 10001 := by
  unfold cutV
  rw [if_pos (by decide), if_pos (by decide)]
  unfold liveCut bkA
  simp only
  rw [if_neg (by decide)]
  simp only [if_true]
  have := tabE_4 z 6 5 (by omega)
  rw [show ((5 : Nat) : Int) = 5 from rfl] at this
  rw [this]
  omega
theorem ends_cash (z : List Int) (F : Int) : cutV (tabE z 6) F ⟨1, 0, 1, 1, 0⟩ 100 = z.getD 0 0 % 10001 := by
  unfold cutV
  rw [if_pos (by decide), if_pos (by decide)]
  unfold liveCut bkA
  simp only [if_true]
  have := tabE_1 z 6 0 (by omega)
  rw [show ((0 : Nat) : Int) = 0 from rfl] at this
  rw [this]
  omega
theorem ends_other (z : List Int) (F : Int) : cutV (tabE z 6) F ⟨1, 0, 5, 1, 0⟩ 100 = 0 := by
  unfold cutV
  rw [if_pos (by decide), if_pos (by decide)]
  unfold liveCut bkA
  simp only
  rw [if_neg (by decide)]
  simp only [if_true]
  rw [tabE_5]
  decide
theorem z_bd {z : List Int} (h : ∀ x ∈ z, -9223372036854775808 ≤ x ∧ x ≤ 9223372036854775807) (k : Nat) : -9223372036854775808 ≤ z.getD k 0 ∧ z.getD k 0 ≤ 9223372036854775807 := by
  rw [List.getD_eq_getElem?_getD]
  by_cases hk : k < z.length
  · rw [List.getElem?_eq_getElem hk]
    exact h _ (List.getElem_mem hk)
  · rw [List.getElem?_eq_none (by omega)]
    simp
set_option maxRecDepth 100000 in
set_option maxHeartbeats 16000000 in
theorem walk_cutEnds (n : Int) (v : Value) (z : List Int) (f : Int) (A : Nat → Addr) (w : World) (n0 : -9223372036854775808 ≤ n) (n1 : n ≤ 9223372036854775807) (hr : Reads .i64 w v z) (hz : ∀ x ∈ z, -9223372036854775808 ≤ x ∧ x ≤ 9223372036854775807) (f0 : -9223372036854775808 ≤ f) (f1 : f ≤ 9223372036854775807) (hS : SentsOn [2] w A) (hT : EndsOn w) :
    Calls Tryd.prog 4 #[.int .i64 n, v, .int .i64 f] w fun r w' => r = .returned (.bool true) ∧ Below w.heap.size w w' := by
  obtain ⟨va, vc, rfl⟩ := reads_slice hr
  have hE := hidden hS.on
  have hF := hidden (law12_first A w hE.out hT)
  by_cases hl : z.length = 6
  · have hx := hidden (fun k (hk : k < 6) => hr.cell k (by omega))
    obtain ⟨bl, o, rfl, _⟩ := hx.out 0 (by omega)
    have hc := hidden (fun k (hk : k < 6) W (hb : Below w.heap.size w W) => show W.cell? ⟨bl, o + k, none⟩ = some (.int .i64 (z.getD k 0)) by
      obtain ⟨b', o', e, c⟩ := hx.out k hk
      simp only [Option.some.injEq, Addr.mk.injEq, and_true] at e
      obtain ⟨rfl, rfl⟩ := e
      rw [World.cell?_of_block (w := w) (hb.block _ (World.block_lt_of_cell? w _ c))]
      exact c)
    have hNn := hidden (fun W => number_any n 9000 W n0 n1 (by decide) (by decide))
    have hNf := hidden (fun W => number_any f 10001 W f0 f1 (by decide) (by decide))
    have hNz := hidden (fun k W => number_any (z.getD k 0) 10001 W (z_bd hz k).1 (z_bd hz k).2 (by decide) (by decide))
    obtain ⟨N, hN, hN1, hN2⟩ : ∃ C, n % 9000 = C ∧ 0 ≤ C ∧ C < 9000 := ⟨n % 9000, rfl, by omega, by omega⟩
    obtain ⟨F, hFf, hF1, hF2⟩ : ∃ C, f % 10001 = C ∧ 0 ≤ C ∧ C < 10001 := ⟨f % 10001, rfl, by omega, by omega⟩
    rw [hN] at hNn
    rw [hFf] at hNf
    have hT' := hidden hT
    have hlI : (z.length : Int) = 6 := by omega
    clear hx hr hz n0 n1 f0 f1 hS hT hN hFf
    rw [hl]
    clear hl
    go_enter Tryd.func4, Tryd.ntmps4
    go_wp2_with fail
    refine hF.out.mono ?_
    rintro r w1 ⟨rfl, hb⟩
    have hn := hidden (lnew12 hb)
    clear hb hF
    go_wp2_with fail
    refine (hNn.out _).mono ?_
    rintro r w2 ⟨rfl, rfl⟩
    go_wp2_with fail
    refine (hNf.out _).mono ?_
    rintro r w2 ⟨rfl, rfl⟩
    clear hNn hNf
    go_wp2_with fail
    go_loopw [9] (fun i wr => EndRel z w w1.heap.size i wr) (fun i _ => 6 - (RowKit.intOf i).toNat)
    case atStart => exact ⟨0, by omega, rfl, hn.out.1, hn.out.2⟩
    case round =>
      obtain ⟨k, hk, rfl, hL, hb⟩ := hrel
      replace hL := hidden hL
      replace hb := hidden hb
      clear hn
      by_cases hlt : k < 6
      · have hkI : (k : Int) < 6 := by omega
        have ck := hc.out k hlt _ hb.out
        have hNk := hidden (fun W => hNz.out k W)
        obtain ⟨e1, e2, e3⟩ := tabE_set z k hlt
        generalize z.getD k 0 % 10001 = nk at *
        generalize z.getD k 0 = zk at *
        replace e1 := hidden e1
        replace e2 := hidden e2
        replace e3 := hidden e3
        clear hc hNz
        go_wp2_with fail
        refine (hNk.out _).mono ?_
        rintro r w2 ⟨rfl, rfl⟩
        clear hNk
        go_wp2_with fail
        refine (lset12 hb.out hL.out (by omega) hE.out (4, (k : Int)) nk).mono ?_
        rintro r w3 ⟨rfl, hL3, hb3⟩
        rw [e1.out, errOf_fine]
        replace hL3 := hidden hL3
        replace hb3 := hidden hb3
        clear hL hb ck
        go_wp2_with fail
        refine (lset12 hb3.out hL3.out (by omega) hE.out (1, (k : Int)) nk).mono ?_
        rintro r w4 ⟨rfl, hL4, hb4⟩
        rw [e2.out, errOf_fine]
        rw [e3.out] at hL4
        replace hL4 := hidden hL4
        replace hb4 := hidden hb4
        clear hL3 hb3
        go_wp2
        go_roundw
        case rel => exact ⟨k + 1, by omega, by go_num, by rw [show (k + 1) + (k + 1) = k + k + 1 + 1 by omega]; exact hL4.out, hb4.out⟩
        case measure => simp [RowKit.intOf]; omega
      · obtain rfl : k = 6 := by omega
        have hfo : bpOk F := ⟨hF1, by omega⟩
        have e1 := hidden (show fxC F = 0 from if_pos hfo)
        have e2 := hidden (show fxN 0 F = F from if_pos hfo)
        clear hlt hk hfo
        go_wp2_with fail
        refine (lsetFx12 hb.out hL.out hE.out F).mono ?_
        rintro r w3 ⟨rfl, hL3, hb3⟩
        rw [e1.out, errOf_fine]
        rw [e2.out] at hL3
        replace hL3 := hidden hL3
        replace hb3 := hidden hb3
        clear hL hb e1 e2
        go_wp2_with fail
        have hmo := hidden (fun j (hj : j < 5) => show (w3.alloc (.cells #[.int .i64 30, .int .i64 90, .int .i64 365, .int .i64 1095, .int .i64 3650] 3)).cell? ⟨w3.heap.size, j, none⟩ = some (.int .i64 (mostE j)) by
          rw [World.cell?_alloc_at _ _ _ _ rfl]
          match j, hj with
          | 0, _ => rfl
          | 1, _ => rfl
          | 2, _ => rfl
          | 3, _ => rfl
          | 4, _ => rfl)
        have hL4 := hidden (hL3.out.below (Below.alloc (Below.refl _ w3) (Nat.le_refl _) (.cells #[.int .i64 30, .int .i64 90, .int .i64 365, .int .i64 1095, .int .i64 3650] 3)) (Nat.le_refl _))
        have hb4 := hidden (hb3.out.alloc hb3.out.size (.cells #[.int .i64 30, .int .i64 90, .int .i64 365, .int .i64 1095, .int .i64 3650] 3))
        clear hL3 hb3
        generalize w3.alloc (.cells #[.int .i64 30, .int .i64 90, .int .i64 365, .int .i64 1095, .int .i64 3650] 3) = w4 at *
        generalize w3.heap.size = gm at *
        obtain ⟨b, hbk, hb6⟩ : ∃ b : Nat, bkD N = (b : Int) ∧ b < 6 := ⟨(bkD N).toNat, by have := bkD_bd N; omega, by have := bkD_bd N; omega⟩
        have hmb := hidden (fun j hj => most_bk N b j hbk hj)
        have hbk' := hidden hbk
        clear hbk
        go_loopw [11, 13] (fun at_ i wr => MostRel b w4 at_ i wr) (fun _ i _ => (RowKit.intOf i + 1).toNat)
        case atStart => exact ⟨rfl, .inl ⟨4, by omega, rfl, by rw [show max b (4 + 1) = 5 by omega]; rfl⟩⟩
        case round =>
          obtain ⟨rfl, hrel⟩ := hrel
          rcases hrel with ⟨j, hj, rfl, rfl⟩ | ⟨rfl, rfl⟩
          · have hjI : (j : Int) < 5 := by omega
            have cm := hmo.out j hj
            have hq := hmb.out j hj
            generalize mostE j = mo at *
            clear hmo hmb hc hNz hL4 hb4
            by_cases hbj : b ≤ j
            · have hlt : N < mo := hq.2 hbj
              have hmx := hidden (show max b (j + 1) = j + 1 by omega)
              clear hq
              go_wp2
              go_roundw
              case rel =>
                refine ⟨rfl, ?_⟩
                by_cases hj0 : j = 0
                · subst hj0
                  exact .inr ⟨by go_num, by rw [show b = 0 by omega]⟩
                · exact .inl ⟨j - 1, by omega, by go_num, by rw [show max b (j - 1 + 1) = j by omega]⟩
              case measure => simp [RowKit.intOf]
            · have hlt : ¬ N < mo := fun h => hbj (hq.1 h)
              have hmx := hidden (show max b (j + 1) = b by omega)
              clear hq
              go_wp2
              go_roundw
              case rel =>
                refine ⟨rfl, ?_⟩
                by_cases hj0 : j = 0
                · subst hj0
                  exact .inr ⟨by go_num, by rw [hmx.out]⟩
                · exact .inl ⟨j - 1, by omega, by go_num, by rw [hmx.out, show max b (j - 1 + 1) = b by omega]⟩
              case measure => simp [RowKit.intOf]
          · clear hmo hmb
            have hbI : (b : Int) < 6 := by omega
            have c1 := hc.out b hb6 _ hb4.out
            have hNb := hidden (fun W => hNz.out b W)
            go_wp2_with fail
            refine (hNb.out _).mono ?_
            rintro r w5 ⟨rfl, rfl⟩
            clear hNb c1
            obtain ⟨V, hV, hV1, hV2⟩ : ∃ V, z.getD b 0 % 10001 = V ∧ 0 ≤ V ∧ V ≤ 10000 := ⟨_, rfl, by omega, by omega⟩
            have qn := ends_near z F N b hbk'.out hb6 hN1 hN2
            have q3 := hidden (ends_over (tabE z 6) F)
            have q4 := hidden (ends_none z F)
            have q5 := hidden (ends_cash z F)
            have q6 := hidden (ends_other z F)
            rw [hV] at qn
            rw [hV]
            have hc5 := hidden (fun W hb => hc.out 5 (by omega) W hb)
            have hc0 := hidden (fun W hb => hc.out 0 (by omega) W hb)
            rw [Nat.add_zero] at hc0
            have hN5 := hidden (fun W => hNz.out 5 W)
            have hN0 := hidden (fun W => hNz.out 0 W)
            clear hbk' hbI hc hNz
            generalize z.getD 5 0 % 10001 = x5 at *
            generalize z.getD 0 0 % 10001 = x0 at *
            generalize z.getD 5 0 = y5 at *
            generalize z.getD 0 0 = y0 at *
            by_cases hNz : N = 0
            · have q1 := hidden (show cutV (tabE z 6) F ⟨1, 0, 4, 1, 100 + N⟩ 100 = 10000 by rw [qn 1 (.inl rfl)]; simp only [if_true]; rw [if_pos hNz]; omega)
              have q2 := hidden (show cutV (tabE z 6) F ⟨1, 0, 4, 2, 100 + N⟩ 100 = 10000 by rw [qn 2 (.inr rfl)]; rw [if_pos hNz, if_neg (by decide), if_pos hNz]; omega)
              have tN : (N == 0) = true := by simpa using hNz
              clear qn hNz hV
              go_wp2_with fail
              refine (lof12 hb4.out hL4.out hE.out hT'.out ⟨1, 0, 4, 1, 100 + N⟩ 100 (by decide) (by decide)).mono ?_
              rintro r w5 ⟨rfl, hL5, hb5, _⟩
              rw [q1.out]
              replace hL4 := hidden hL5
              replace hb4 := hidden hb5
              clear hL5 hb5 q1
              go_wp2_with fail
              refine (lof12 hb4.out hL4.out hE.out hT'.out ⟨1, 0, 4, 2, 100 + N⟩ 100 (by decide) (by decide)).mono ?_
              rintro r w5 ⟨rfl, hL5, hb5, _⟩
              rw [q2.out]
              replace hL4 := hidden hL5
              replace hb4 := hidden hb5
              clear hL5 hb5 q2
              go_wp2_with fail
              refine (lof12 hb4.out hL4.out hE.out hT'.out ⟨1, 0, 4, 1, 100⟩ 101 (by decide) (by decide)).mono ?_
              rintro r w5 ⟨rfl, hL5, hb5, _⟩
              rw [q3.out]
              replace hL4 := hidden hL5
              replace hb4 := hidden hb5
              clear hL5 hb5 q3
              go_wp2_with fail
              refine (lof12 hb4.out hL4.out hE.out hT'.out ⟨1, 0, 4, 1, 0⟩ 100 (by decide) (by decide)).mono ?_
              rintro r w5 ⟨rfl, hL5, hb5, _⟩
              rw [q4.out]
              replace hL4 := hidden hL5
              replace hb4 := hidden hb5
              clear hL5 hb5 q4
              go_wp2_with fail
              refine (lof12 hb4.out hL4.out hE.out hT'.out ⟨1, 0, 1, 1, 0⟩ 100 (by decide) (by decide)).mono ?_
              rintro r w5 ⟨rfl, hL5, hb5, _⟩
              rw [q5.out]
              replace hL4 := hidden hL5
              replace hb4 := hidden hb5
              clear hL5 hb5 q5
              go_wp2_with fail
              refine (lof12 hb4.out hL4.out hE.out hT'.out ⟨1, 0, 5, 1, 0⟩ 100 (by decide) (by decide)).mono ?_
              rintro r w5 ⟨rfl, hL5, hb5, _⟩
              rw [q6.out]
              replace hL4 := hidden hL5
              replace hb4 := hidden hb5
              clear hL5 hb5 q6
              have c5 := hc5.out _ hb4.out
              have c0 := hc0.out _ hb4.out
              clear hL4 hc5 hc0
              go_wp2_with fail
              all_goals
                refine (hN5.out _).mono ?_
                rintro r w6 ⟨rfl, rfl⟩
                go_wp2_with fail
                refine (hN0.out _).mono ?_
                rintro r w6 ⟨rfl, rfl⟩
                go_wp2
                all_goals
                  go_ret
                  first | exact ⟨rfl, hb4.out⟩ | omega
            · have q1 := hidden (show cutV (tabE z 6) F ⟨1, 0, 4, 1, 100 + N⟩ 100 = V by rw [qn 1 (.inl rfl)]; simp only [if_true]; rw [if_neg hNz]; omega)
              have tN : (N == 0) = false := by simpa using hNz
              by_cases hVF : V + F ≤ 10000
              · have q2 := hidden (show cutV (tabE z 6) F ⟨1, 0, 4, 2, 100 + N⟩ 100 = V + F by rw [qn 2 (.inr rfl)]; rw [if_neg hNz, if_neg (by decide), if_neg hNz]; omega)
                clear qn hNz hV
                go_wp2_with fail
                refine (lof12 hb4.out hL4.out hE.out hT'.out ⟨1, 0, 4, 1, 100 + N⟩ 100 (by decide) (by decide)).mono ?_
                rintro r w5 ⟨rfl, hL5, hb5, _⟩
                rw [q1.out]
                replace hL4 := hidden hL5
                replace hb4 := hidden hb5
                clear hL5 hb5 q1
                go_wp2_with fail
                refine (lof12 hb4.out hL4.out hE.out hT'.out ⟨1, 0, 4, 2, 100 + N⟩ 100 (by decide) (by decide)).mono ?_
                rintro r w5 ⟨rfl, hL5, hb5, _⟩
                rw [q2.out]
                replace hL4 := hidden hL5
                replace hb4 := hidden hb5
                clear hL5 hb5 q2
                go_wp2_with fail
                refine (lof12 hb4.out hL4.out hE.out hT'.out ⟨1, 0, 4, 1, 100⟩ 101 (by decide) (by decide)).mono ?_
                rintro r w5 ⟨rfl, hL5, hb5, _⟩
                rw [q3.out]
                replace hL4 := hidden hL5
                replace hb4 := hidden hb5
                clear hL5 hb5 q3
                go_wp2_with fail
                refine (lof12 hb4.out hL4.out hE.out hT'.out ⟨1, 0, 4, 1, 0⟩ 100 (by decide) (by decide)).mono ?_
                rintro r w5 ⟨rfl, hL5, hb5, _⟩
                rw [q4.out]
                replace hL4 := hidden hL5
                replace hb4 := hidden hb5
                clear hL5 hb5 q4
                go_wp2_with fail
                refine (lof12 hb4.out hL4.out hE.out hT'.out ⟨1, 0, 1, 1, 0⟩ 100 (by decide) (by decide)).mono ?_
                rintro r w5 ⟨rfl, hL5, hb5, _⟩
                rw [q5.out]
                replace hL4 := hidden hL5
                replace hb4 := hidden hb5
                clear hL5 hb5 q5
                go_wp2_with fail
                refine (lof12 hb4.out hL4.out hE.out hT'.out ⟨1, 0, 5, 1, 0⟩ 100 (by decide) (by decide)).mono ?_
                rintro r w5 ⟨rfl, hL5, hb5, _⟩
                rw [q6.out]
                replace hL4 := hidden hL5
                replace hb4 := hidden hb5
                clear hL5 hb5 q6
                have c5 := hc5.out _ hb4.out
                have c0 := hc0.out _ hb4.out
                clear hL4 hc5 hc0
                go_wp2_with fail
                all_goals
                  refine (hN5.out _).mono ?_
                  rintro r w6 ⟨rfl, rfl⟩
                  go_wp2_with fail
                  refine (hN0.out _).mono ?_
                  rintro r w6 ⟨rfl, rfl⟩
                  go_wp2
                  all_goals
                    go_ret
                    first | exact ⟨rfl, hb4.out⟩ | omega
              · have q2 := hidden (show cutV (tabE z 6) F ⟨1, 0, 4, 2, 100 + N⟩ 100 = 10000 by rw [qn 2 (.inr rfl)]; rw [if_neg hNz, if_neg (by decide), if_neg hNz]; omega)
                clear qn hNz hV
                go_wp2_with fail
                refine (lof12 hb4.out hL4.out hE.out hT'.out ⟨1, 0, 4, 1, 100 + N⟩ 100 (by decide) (by decide)).mono ?_
                rintro r w5 ⟨rfl, hL5, hb5, _⟩
                rw [q1.out]
                replace hL4 := hidden hL5
                replace hb4 := hidden hb5
                clear hL5 hb5 q1
                go_wp2_with fail
                refine (lof12 hb4.out hL4.out hE.out hT'.out ⟨1, 0, 4, 2, 100 + N⟩ 100 (by decide) (by decide)).mono ?_
                rintro r w5 ⟨rfl, hL5, hb5, _⟩
                rw [q2.out]
                replace hL4 := hidden hL5
                replace hb4 := hidden hb5
                clear hL5 hb5 q2
                go_wp2_with fail
                refine (lof12 hb4.out hL4.out hE.out hT'.out ⟨1, 0, 4, 1, 100⟩ 101 (by decide) (by decide)).mono ?_
                rintro r w5 ⟨rfl, hL5, hb5, _⟩
                rw [q3.out]
                replace hL4 := hidden hL5
                replace hb4 := hidden hb5
                clear hL5 hb5 q3
                go_wp2_with fail
                refine (lof12 hb4.out hL4.out hE.out hT'.out ⟨1, 0, 4, 1, 0⟩ 100 (by decide) (by decide)).mono ?_
                rintro r w5 ⟨rfl, hL5, hb5, _⟩
                rw [q4.out]
                replace hL4 := hidden hL5
                replace hb4 := hidden hb5
                clear hL5 hb5 q4
                go_wp2_with fail
                refine (lof12 hb4.out hL4.out hE.out hT'.out ⟨1, 0, 1, 1, 0⟩ 100 (by decide) (by decide)).mono ?_
                rintro r w5 ⟨rfl, hL5, hb5, _⟩
                rw [q5.out]
                replace hL4 := hidden hL5
                replace hb4 := hidden hb5
                clear hL5 hb5 q5
                go_wp2_with fail
                refine (lof12 hb4.out hL4.out hE.out hT'.out ⟨1, 0, 5, 1, 0⟩ 100 (by decide) (by decide)).mono ?_
                rintro r w5 ⟨rfl, hL5, hb5, _⟩
                rw [q6.out]
                replace hL4 := hidden hL5
                replace hb4 := hidden hb5
                clear hL5 hb5 q6
                have c5 := hc5.out _ hb4.out
                have c0 := hc0.out _ hb4.out
                clear hL4 hc5 hc0
                go_wp2_with fail
                all_goals
                  refine (hN5.out _).mono ?_
                  rintro r w6 ⟨rfl, rfl⟩
                  go_wp2_with fail
                  refine (hN0.out _).mono ?_
                  rintro r w6 ⟨rfl, rfl⟩
                  go_wp2
                  all_goals
                    go_ret
                    first | exact ⟨rfl, hb4.out⟩ | omega
  · have hlI : ¬ (z.length : Int) = 6 := by omega
    clear hr hz n0 n1 f0 f1 hS hT hE
    go_enter Tryd.func4, Tryd.ntmps4
    go_wp2_with fail
    refine hF.out.mono ?_
    rintro r w1 ⟨rfl, hb⟩
    replace hb := hidden hb
    go_wp2
    go_ret
    exact ⟨rfl, hb.out⟩
end Go.Proofs.YthlepeeejmeahaaDoor
