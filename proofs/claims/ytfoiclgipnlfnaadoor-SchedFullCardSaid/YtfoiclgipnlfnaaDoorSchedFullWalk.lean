import Derived.Test.YtfoiclgipnlfnaaDoorSched4
import Derived.Test.YtfoiclgipnlfnaaDoorSchedLaw
import Derived.Test.YtfoiclgipnlfnaaDoorNumber
import Derived.Test.YtfoiclgipnlfnaaDoorLaidOn
namespace Go.Proofs.YtfoiclgipnlfnaaDoor
open Go.RowKit
set_option linter.unusedVariables false

/-- the entries of the statement. -/
def gE (k : Nat) : En := ⟨(k : Int) / 2, 1 + (k : Int) % 2, true⟩
def fullE (i : Nat) : List En := (List.range (min i 64)).map gE
theorem fullE_len (i : Nat) : (fullE i).length = min i 64 := by simp [fullE]
theorem fullE_at {i j : Nat} (h : j < min i 64) : (fullE i).getD j enZ = gE j := by
  rw [fullE, List.getD_eq_getElem?_getD, List.getElem?_map, List.getElem?_range h]; rfl
theorem gE_ok {i : Nat} (h : i < 80) : EnOk (gE i) := by
  unfold EnOk gE
  simp only
  omega
theorem gE_ahead {j i : Nat} (h : j < i) : aheadE (gE j) (gE i) := by
  unfold aheadE gE
  simp only
  omega
theorem fullE_place (i : Nat) : plE (fullE i) (gE i) = (fullE i).length := by
  refine plE_eq ⟨Nat.le_refl _, fun j hj => ?_, fun h => absurd h (Nat.lt_irrefl _)⟩
  rw [fullE_len] at hj
  rw [fullE_at hj]
  exact gE_ahead (by omega)
theorem fullE_low {i : Nat} (h : i < 64) : adC (fullE i) (gE i) = 0 ∧ nextE (fullE i) (gE i) = fullE (i + 1) := by
  have hp := fullE_place i
  obtain ⟨q1, _, q3⟩ := adE_new (gE_ok (show i < 80 by omega)) (hitE_end hp) (by rw [fullE_len]; omega)
  refine ⟨q1, ?_⟩
  rw [q3, hp]
  unfold insE
  rw [List.take_length, List.drop_length]
  unfold fullE
  rw [show min i 64 = i by omega, show min (i + 1) 64 = i + 1 by omega, List.range_succ, List.map_append]
  rfl
theorem fullE_high {i : Nat} (h : ¬ i < 64) (h2 : i < 80) : adC (fullE i) (gE i) = 105 ∧ nextE (fullE i) (gE i) = fullE (i + 1) := by
  obtain ⟨q1, _, q3⟩ := adE_full (gE_ok h2) (hitE_end (fullE_place i)) (by rw [fullE_len]; omega)
  refine ⟨q1, ?_⟩
  rw [q3]
  unfold fullE
  rw [show min i 64 = 64 by omega, show min (i + 1) 64 = 64 by omega]
theorem onE_first {R : List En} {on : Bool} (h0 : 0 < R.length) (h1 : (R.getD 0 enZ).c = 1 ∧ (R.getD 0 enZ).d ≤ 0) (ho : (R.getD 0 enZ).o = on) (hk : ∀ k, 1 ≤ k → k < R.length → ¬ ((R.getD k enZ).c = 1 ∧ (R.getD k enZ).d ≤ 0)) : onE R 1 0 = on := by
  have key : ∀ k, k + 1 ≤ R.length → onE (R.take (k + 1)) 1 0 = on := fun k => by
    induction k with
    | zero => intro h; rw [onE_next R 1 0 0 h0, if_pos h1, ho]
    | succ k ih => intro h; rw [onE_next R 1 0 (k + 1) (by omega), if_neg (hk (k + 1) (by omega) (by omega)), ih (by omega)]
  have := key (R.length - 1) (by omega)
  rwa [show R.length - 1 + 1 = R.length by omega, List.take_length] at this
/-- behind the last one. -/
theorem fullE_last (N : Nat) (on : Bool) : ∃ R, adC (fullE N) ⟨0, 1, on⟩ = 0 ∧ nextE (fullE N) ⟨0, 1, on⟩ = R ∧ onE R 1 0 = on ∧ (R.length : Int) = max 1 (min (N : Int) 64) := by
  have hok : EnOk ⟨0, 1, on⟩ := by unfold EnOk; simp
  by_cases h : N = 0
  · subst h
    have e : fullE 0 = [] := rfl
    have hp : plE ([] : List En) ⟨0, 1, on⟩ = 0 := rfl
    obtain ⟨q1, _, q3⟩ := adE_new (l := []) hok (hitE_end hp) (by simp)
    rw [e]
    refine ⟨_, q1, rfl, ?_, ?_⟩
    · rw [q3, hp]
      show onE [⟨0, 1, on⟩] 1 0 = on
      simp [onE]
    · rw [q3, hp]
      rfl
  · have hl := fullE_len N
    have h0 : 0 < min N 64 := by omega
    have hp : plE (fullE N) ⟨0, 1, on⟩ = 0 := by
      refine plE_eq ⟨Nat.zero_le _, fun j hj => absurd hj (Nat.not_lt_zero _), fun hh => ?_⟩
      rw [fullE_at h0]
      unfold aheadE gE
      simp
    have hh : hitE (fullE N) ⟨0, 1, on⟩ = true := by
      unfold hitE
      rw [hp, fullE_at h0]
      refine decide_eq_true ⟨by omega, ?_⟩
      unfold aheadE gE
      simp
    obtain ⟨q1, _, q3⟩ := adE_hit hok hh
    rw [hp] at q3
    have hg : ∀ k, k < min N 64 → ((fullE N).set 0 ⟨0, 1, on⟩).getD k enZ = if 0 = k then ⟨0, 1, on⟩ else gE k := fun k hk => by
      rw [getE_set _ _ _ _ (by omega), fullE_at hk]
    refine ⟨_, q1, rfl, ?_, ?_⟩
    · rw [q3]
      refine onE_first (by rw [List.length_set]; omega) ?_ ?_ ?_
      · rw [hg 0 h0, if_pos rfl]; simp
      · rw [hg 0 h0, if_pos rfl]
      · intro k k1 k2
        rw [List.length_set, hl] at k2
        rw [hg k k2, if_neg (by omega)]
        unfold gE
        simp only
        omega
    · rw [q3, List.length_set, hl]
      omega
def FullRel (N : Nat) (w0 : World) (g : Nat) (i : Value) (w : World) : Prop := ∃ k : Nat, k ≤ N ∧ i = .int .i64 (k : Int) ∧ SchAt w g (fullE k) ∧ Below w0.heap.size w0 w
set_option maxRecDepth 100000 in
set_option maxHeartbeats 3200000 in
theorem walk_schedFull (n : Int) (on : Bool) (A : Nat → Addr) (w : World) (hn : -9223372036854775808 ≤ n) (hn2 : n ≤ 9223372036854775807) (hS : Sents w A) :
    Calls Tryd.prog 5 #[.int .i64 n, .bool on] w fun r w' => r = .returned (.bool true) ∧ Below w.heap.size w w' := by
  have hF := hidden (law11_first A w (hS.on [2, 4] (by decide)))
  have hNu := hidden (fun W => number_any n 80 W hn hn2 (by decide) (by decide))
  obtain ⟨N, hN1⟩ : ∃ N : Nat, n % 80 = (N : Int) := ⟨(n % 80).toNat, by omega⟩
  have hN2 : N < 80 := by omega
  rw [hN1] at hNu
  have hE := hidden (hS.on [2, 4] (by decide))
  have hI := hidden (fun W (h : Below w.heap.size w W) => is_any A 105 105 W (hS.below h (Nat.le_refl _)) (.inr (by decide)))
  have hz := hidden sched_zero
  clear hS hn hn2 hN1
  go_enter Tryd.func5, Tryd.ntmps5
  go_wp2_with fail
  refine hF.out.mono ?_
  rintro r w1 ⟨rfl, hb⟩
  replace hb := hidden hb
  clear hF
  go_wp2_with fail
  refine (hNu.out _).mono ?_
  rintro r w2 ⟨rfl, rfl⟩
  have hn := hidden (schAt_new w1)
  have hg := hidden hb.out.size
  have hb1 := hidden (hb.out.alloc hb.out.size (.cells schF 28))
  clear hb hNu
  generalize schF = F at *
  have hzz := hz.out
  have hNI : (N : Int) < 80 := by omega
  go_wp2_with fail
  go_loopw [7] (fun i wr => FullRel N w w1.heap.size i wr) (fun i _ => N - (intOf i).toNat)
  case atStart => exact ⟨0, Nat.zero_le _, rfl, hn.out, hb1.out⟩
  case round =>
    obtain ⟨k, hk, rfl, hT, hb⟩ := hrel
    clear hn hb1 hzz hz
    by_cases hlt : k < N
    · have hkI : (k : Int) < (N : Int) := by omega
      have hk80 : (k : Int) < 80 := by omega
      have hgE := hidden (show gE k = ⟨(k : Int) / 2, 1 + (k : Int) % 2, true⟩ from rfl)
      have hA := hidden (ladd hb hg.out hT hE.out (gE k))
      rw [hgE.out] at hA
      replace hb := hidden hb
      clear hT
      by_cases h64 : k < 64
      · obtain ⟨q1, q2⟩ := fullE_low h64
        rw [hgE.out] at q1 q2
        rw [q1, q2, errOf_fine] at hA
        have h64I : (k : Int) < 64 := by omega
        clear q1 q2 hgE hI h64
        go_wp2_with fail
        refine hA.out.mono ?_
        rintro r w3 ⟨rfl, hT3, hb3⟩
        replace hT3 := hidden hT3
        replace hb3 := hidden hb3
        clear hA hb
        go_wp2
        go_roundw
        case rel => exact ⟨k + 1, hlt, by go_num, hT3.out, hb3.out⟩
        case measure => simp [intOf]; omega
      · obtain ⟨q1, q2⟩ := fullE_high h64 (by omega)
        rw [hgE.out] at q1 q2
        rw [q1, q2, show errOf A 105 = errAt (A 4) from rfl] at hA
        rw [show errOf A 105 = errAt (A 4) from rfl] at hI
        have h64I : ¬ (k : Int) < 64 := by omega
        clear q1 q2 hgE h64
        go_wp2_with fail
        refine hA.out.mono ?_
        rintro r w3 ⟨rfl, hT3, hb3⟩
        replace hT3 := hidden hT3
        replace hb3 := hidden hb3
        clear hA hb
        go_wp2_with fail
        refine (hI.out _ hb3.out).mono ?_
        rintro r w4 ⟨rfl, hb4⟩
        replace hT3 := hidden (hT3.out.below hb4)
        replace hb3 := hidden (hb3.out.trans (hb4.mono hb3.out.size))
        clear hb4
        go_wp2
        go_roundw
        case rel => exact ⟨k + 1, hlt, by go_num, hT3.out, hb3.out⟩
        case measure => simp [intOf]; omega
    · obtain rfl : k = N := by omega
      obtain ⟨R, q1, q2, q3, q4⟩ := fullE_last k on
      have hA := hidden (ladd hb hg.out hT hE.out ⟨0, 1, on⟩)
      rw [q1, q2, errOf_fine] at hA
      have hO := hidden (fun W h => on_anyE R w1.heap.size 1 0 W h)
      have hL := hidden (fun W h => all_anyE R w1.heap.size W h)
      rw [q3] at hO
      have hq4 := hidden q4
      clear q1 q2 q3 q4 hT hb hI hE
      go_wp2_with fail
      refine hA.out.mono ?_
      rintro r w3 ⟨rfl, hT3, hb3⟩
      replace hT3 := hidden hT3
      replace hb3 := hidden hb3
      clear hA
      go_wp2_with fail
      refine (hO.out _ hT3.out).mono ?_
      rintro r w4 ⟨rfl, hb4⟩
      replace hT3 := hidden (hT3.out.below hb4)
      replace hb3 := hidden (hb3.out.trans (hb4.mono hb3.out.size))
      clear hb4 hO
      go_wp2_with fail
      refine (hL.out _ hT3.out).mono ?_
      rintro r w5 ⟨v5, rfl, hown5, hb5⟩
      obtain ⟨a5, c5, rfl⟩ := row_slice (hown5.row enV_len)
      replace hb3 := hidden (hb3.out.trans (hb5.mono hb3.out.size))
      clear hb5 hL hown5 hT3
      go_wp2
      all_goals
        go_ret
        refine ⟨ret_bool ?_, hb3.out⟩
        have := hq4.out
        rw [beq_iff_eq]
        omega
end Go.Proofs.YtfoiclgipnlfnaaDoor
