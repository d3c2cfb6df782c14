/-
  FundCalls.
-/
import Derived.Test.YtlanggdmdpjfbaaDoorFundLaw
import Derived.Test.YtlanggdmdpjfbaaDoorLaidOn
namespace Go.Proofs.YtlanggdmdpjfbaaDoor
open Go Go.RowKit
set_option linter.unusedVariables false

theorem fu_last : siC noL 7 7 [] = 0 ∧ siW noL 7 7 [] = 7 ∧ siL noL 7 7 [] = [] := by decide +kernel
theorem size_last (A : Nat → Addr) (w : World) (B g n : Nat) (h : LoAt w B g n noL) (hE : ErrsOn [2, 3, 4, 5] w A) :
    Calls Tryd.prog 10 #[.pointer (some ⟨g, 0, none⟩), .int .i64 7, .int .i64 7, .slice none 0 0] w fun e w' => ∃ (sc : Int) (a : Option Addr) (c : Nat), e = .returned (.tuple #[fuA 7 7 7 sc (.slice a 0 c), .nilIface]) ∧ Below w.heap.size w w' :=
  (size_any24 A w B g n noL h 7 7 (.slice none 0 0) [] (Reads.nil _ _) hE).mono fun e w' hx => by
    obtain ⟨v', h1, h2, _, h4⟩ := hx
    have hN := si_good (T := noL) (f := 7) (c := 7) (L := []) fu_last.1
    rw [fu_last.1, fu_last.2.1, errOf_fine] at h1
    simp only [hN] at h1
    rw [fu_last.2.2] at h2
    obtain ⟨a, c, rfl⟩ := reads_slice h2
    exact ⟨_, a, c, h1, h4⟩
theorem am_wF {L : List Int} (h : ∀ j, j < L.length → am23 (wF L j)) : ∀ i, am23 (wF L i) := fun i => by
  by_cases q : i < L.length
  · exact h i q
  · rw [wF_over (Nat.le_of_not_lt q)]; exact ⟨by decide, by decide⟩
theorem am_in {x : Int} (h : am23 x) : -9223372036854775808 ≤ x ∧ x ≤ 9223372036854775807 := by unfold am23 at h; omega
theorem am_parts (x : Int) : (decide (x < 0) = true) ∨ (decide (x < 0) = false ∧ decide (1000000000000000 < x) = true) ∨ (decide (x < 0) = false ∧ decide (1000000000000000 < x) = false ∧ am23 x) := by
  simp only [decide_eq_true_iff, decide_eq_false_iff_not]
  unfold am23
  omega
def CcRel24 (N : Nat) (w0 : World) (i : Value) (w : World) : Prop := ∃ k : Nat, k ≤ N ∧ i = .int .i64 (k : Int) ∧ w0 = w
set_option maxRecDepth 100000 in
set_option maxHeartbeats 6400000 in
theorem walk_fundCalls (v : Value) (old : List Int) (u : Value) (new : List Int) (A : Nat → Addr) (w : World) (hr : Reads .i64 w v old) (hz : ∀ x ∈ old, -9223372036854775808 ≤ x ∧ x ≤ 9223372036854775807) (hr2 : Reads .i64 w u new) (hz2 : ∀ x ∈ new, -9223372036854775808 ≤ x ∧ x ≤ 9223372036854775807) (hS : SentsOn [2, 3, 4, 5] w A) :
    Calls Tryd.prog 6 #[v, u] w fun e w' => e = .returned (.bool true) ∧ Below w.heap.size w w' := by
  have hF := hidden (law24_first A w hS.on)
  have hE := hidden hS.on
  have hrW := hidden (fun W (hb : Below w.heap.size w W) => hr.below hb (Nat.le_refl _))
  have hrW2 := hidden (fun W (hb : Below w.heap.size w W) => hr2.below hb (Nat.le_refl _))
  obtain ⟨a1, c1, rfl⟩ := reads_slice hr
  obtain ⟨a2, c2, rfl⟩ := reads_slice hr2
  clear hr hr2 hz hz2 hS
  by_cases h20 : (20 : Int) < (old.length : Int)
  · have t1 : decide ((20 : Int) < (old.length : Int)) = true := decide_eq_true h20
    clear h20 hrW hrW2 hE
    go_enter Tryd.func6, Tryd.ntmps6
    go_wp2_with fail
    refine hF.out.mono ?_
    rintro e w1 ⟨rfl, hb⟩
    replace hb := hidden hb
    clear hF
    go_wp2
    go_ret
    exact ⟨rfl, hb.out⟩
  have t1 : decide ((20 : Int) < (old.length : Int)) = false := decide_eq_false h20
  by_cases h20' : (20 : Int) < (new.length : Int)
  · have t2 : decide ((20 : Int) < (new.length : Int)) = true := decide_eq_true h20'
    clear h20 h20' hrW hrW2 hE
    go_enter Tryd.func6, Tryd.ntmps6
    go_wp2_with fail
    refine hF.out.mono ?_
    rintro e w1 ⟨rfl, hb⟩
    replace hb := hidden hb
    clear hF
    go_wp2
    go_ret
    exact ⟨rfl, hb.out⟩
  have t2 : decide ((20 : Int) < (new.length : Int)) = false := decide_eq_false h20'
  have ho20 : old.length ≤ 20 := by omega
  have hn20 : new.length ≤ 20 := by omega
  clear h20 h20'
  go_enter Tryd.func6, Tryd.ntmps6
  go_wp2_with fail
  refine hF.out.mono ?_
  rintro e w1 ⟨rfl, hb⟩
  have hx1 := hidden (fun i hi => (hrW.out w1 hb).cell i hi)
  have hx2 := hidden (fun i hi => (hrW2.out w1 hb).cell i hi)
  replace hb := hidden hb
  clear hF
  go_wp2_with fail
  clear t1 t2
  go_loopw [6] (fun i wr => TlRel old w1 i wr) (fun i _ => old.length - (RowKit.intOf i).toNat)
  case atStart => exact ⟨0, Nat.zero_le _, rfl, fun j hj => by omega, rfl⟩
  case round =>
    obtain ⟨k, hk, rfl, hok, rfl⟩ := hrel
    by_cases hlt : k < old.length
    · have hlI : (k : Int) < (old.length : Int) := by omega
      obtain ⟨b, o, rfl, q0⟩ := hx1.out k hlt
      rw [show old.getD k 0 = wF old k from rfl] at q0
      rcases am_parts (wF old k) with t1 | ⟨t1, t2⟩ | ⟨t1, t2, ham⟩
      · generalize wF old k = x at *
        clear hok hx1 hx2 hrW hrW2 hE
        go_wp2
        go_ret
        exact ⟨rfl, hb.out⟩
      · generalize wF old k = x at *
        clear hok hx1 hx2 hrW hrW2 hE
        go_wp2
        go_ret
        exact ⟨rfl, hb.out⟩
      · have hok2 := hidden (show ∀ j, j < k + 1 → am23 (wF old j) from fun j hj => by
          by_cases e : j = k
          · subst e; exact ham
          · exact hok j (by omega))
        clear ham hok hx1 hx2 hrW hrW2 hE
        generalize wF old k = x at *
        go_wp2
        go_roundw
        case rel => exact ⟨k + 1, hlt, by go_num, hok2.out, rfl⟩
        case measure => simp [RowKit.intOf]; omega
    · obtain rfl : k = old.length := by omega
      have hok1 := hidden hok
      clear hok hx1 hlt hk
      go_wp2_with fail
      go_loopw [7] (fun i wr => TlRel new w1 i wr) (fun i _ => new.length - (RowKit.intOf i).toNat)
      case atStart => exact ⟨0, Nat.zero_le _, rfl, fun j hj => by omega, rfl⟩
      case round =>
        obtain ⟨k, hk, rfl, hok, rfl⟩ := hrel
        by_cases hlt : k < new.length
        · have hlI : (k : Int) < (new.length : Int) := by omega
          obtain ⟨b, o, rfl, q0⟩ := hx2.out k hlt
          rw [show new.getD k 0 = wF new k from rfl] at q0
          rcases am_parts (wF new k) with t1 | ⟨t1, t2⟩ | ⟨t1, t2, ham⟩
          · generalize wF new k = x at *
            clear hok hok1 hx2 hrW hrW2 hE
            go_wp2
            go_ret
            exact ⟨rfl, hb.out⟩
          · generalize wF new k = x at *
            clear hok hok1 hx2 hrW hrW2 hE
            go_wp2
            go_ret
            exact ⟨rfl, hb.out⟩
          · have hok2 := hidden (show ∀ j, j < k + 1 → am23 (wF new j) from fun j hj => by
              by_cases e : j = k
              · subst e; exact ham
              · exact hok j (by omega))
            clear ham hok hok1 hx2 hrW hrW2 hE
            generalize wF new k = x at *
            go_wp2
            go_roundw
            case rel => exact ⟨k + 1, hlt, by go_num, hok2.out, rfl⟩
            case measure => simp [RowKit.intOf]; omega
        · obtain rfl : k = new.length := by omega
          have hA1 := am_wF hok1.out
          have hA2 := am_wF hok
          have hC := hidden (calls_any24 (.slice a1 old.length c1) (.slice a2 new.length c2) old new w1 (hrW.out w1 hb.out) (hrW2.out w1 hb.out) (by omega) (by omega) (fun i => am_in (hA1 i)) (fun i => am_in (hA2 i)))
          unfold CaAt24 at hC
          have hmx : max (old.length : Int) (new.length : Int) = (cfN old new : Int) := by unfold cfN; omega
          have hN40 : (cfN old new : Int) ≤ 20 := by unfold cfN; omega
          have hlen := hidden (cfL_len old new)
          have hval := hidden (fun i (hi : i < cfN old new) => show (cfL old new).getD i 0 = max 0 (wF new i - wF old i) ∧ am23 (wF old i) ∧ am23 (wF new i) from
            ⟨(cfL_at hi).trans (abX_small (hA2 i).1 (hA1 i).1 (am_in (hA2 i)).2), hA1 i, hA2 i⟩)
          have hcov := hidden (show ∀ i, i < cfN old new → i < old.length ∨ i < new.length from fun i hi => by unfold cfN at hi; omega)
          clear hok hok1 hx2 hlt hk hA1 hA2
          generalize cfN old new = N at *
          go_wp2_with fail
          refine hC.out.mono ?_
          rintro e w3 ⟨v3, rfl, hv3, _, hb3⟩
          obtain ⟨a3, c3, rfl⟩ := reads_slice hv3
          replace hb := hidden (hb.out.trans (hb3.mono hb.out.size))
          have hx1 := hidden (fun i hi => (hrW.out w3 hb.out).cell i hi)
          have hx2 := hidden (fun i hi => (hrW2.out w3 hb.out).cell i hi)
          have hx3 := hidden (fun i hi => hv3.cell i hi)
          rw [hlen.out] at hx3
          rw [hlen.out]
          clear hC hb3 hrW hrW2 hv3
          go_wp2_with fail
          go_loopw [9] (fun i wr => CcRel24 N w3 i wr) (fun i _ => N - (RowKit.intOf i).toNat)
          case atStart => exact ⟨0, Nat.zero_le _, rfl, rfl⟩
          case round =>
            obtain ⟨k, hk, rfl, rfl⟩ := hrel
            by_cases hlt : k < N
            · have hlI : (k : Int) < (N : Int) := by omega
              obtain ⟨b3, o3, rfl, q3⟩ := hx3.out k hlt
              obtain ⟨e1, m1, m2⟩ := hval.out k hlt
              rw [e1] at q3
              unfold am23 at m1 m2
              have hcv := hcov.out k hlt
              obtain ⟨y, hy⟩ : ∃ y, y = max 0 (wF new k - wF old k) := ⟨_, rfl⟩
              rw [← hy] at q3
              obtain ⟨s, hs⟩ : ∃ s, s = max (wF old k) (wF new k) := ⟨_, rfl⟩
              have hw1 : IntKind.i64.wrap (wF old k + y) = s := by rw [IntKind.wrap_i64]; omega
              have hms : max (wF old k) (wF new k) = s := hs.symm
              have hy0 : decide (y < 0) = false := decide_eq_false (by omega)
              by_cases k1 : k < old.length
              · have k1I : (k : Int) < (old.length : Int) := by omega
                obtain ⟨b1, o1, rfl, q1⟩ := hx1.out k k1
                rw [show old.getD k 0 = wF old k from rfl] at q1
                by_cases k2 : k < new.length
                · have k2I : (k : Int) < (new.length : Int) := by omega
                  obtain ⟨b2, o2, rfl, q2⟩ := hx2.out k k2
                  rw [show new.getD k 0 = wF new k from rfl] at q2
                  clear e1 hval hcov hx1 hx2 hx3 hcv hE hs hy m1 m2 hmx
                  generalize wF old k = x at *
                  generalize wF new k = z at *
                  go_wp2
                  all_goals
                    go_roundw
                    case rel => exact ⟨k + 1, hlt, by go_num, rfl⟩
                    case measure => simp [RowKit.intOf]; omega
                · have k2I : ¬ (k : Int) < (new.length : Int) := by omega
                  have hz0 : wF new k = 0 := wF_over (Nat.le_of_not_lt k2)
                  rw [hz0] at hms
                  clear e1 hval hcov hx1 hx2 hx3 hcv hE hs hy m1 m2 hmx hz0
                  generalize wF old k = x at *
                  go_wp2
                  all_goals
                    go_roundw
                    case rel => exact ⟨k + 1, hlt, by go_num, rfl⟩
                    case measure => simp [RowKit.intOf]; omega
              · have k1I : ¬ (k : Int) < (old.length : Int) := by omega
                have k2 : k < new.length := by omega
                have k2I : (k : Int) < (new.length : Int) := by omega
                obtain ⟨b2, o2, rfl, q2⟩ := hx2.out k k2
                rw [show new.getD k 0 = wF new k from rfl] at q2
                have hz0 : wF old k = 0 := wF_over (Nat.le_of_not_lt k1)
                rw [hz0] at hms hw1
                have hys : y = s := by rw [hs, hy, hz0]; omega
                subst hys
                have hw2 : wrap64 y = y := by unfold wrap64; omega
                clear e1 hval hcov hx1 hx2 hx3 hcv hE hs hy m1 m2 hmx hz0
                generalize wF new k = z at *
                go_wp2
                all_goals
                  clear hw2
                  go_roundw
                  case rel => exact ⟨k + 1, hlt, by go_num, rfl⟩
                  case measure => simp [RowKit.intOf]; omega
            · obtain rfl : k = N := by omega
              obtain ⟨hL, hb4⟩ := lnew22 (Below.refl w3.heap.size w3)
              have hbL := hb.out.trans (hb4.mono hb.out.size)
              have hZ := hidden (size_last A _ _ _ _ hL (hE.out.below hbL (Nat.le_refl _)))
              replace hbL := hidden hbL
              clear hval hcov hx1 hx2 hx3 hE hL hb4 hlt hk
              go_wp2_with fail
              refine hZ.out.mono ?_
              rintro e w5 ⟨sc, a5, c5, rfl, hb5⟩
              have hb6 := hbL.out.trans (hb5.mono hbL.out.size)
              have hb7 := hidden (hb6.alloc hb6.size (fuO fuTy 7 7 7 sc (.slice a5 0 c5)))
              clear hZ hb5 hb6 hbL
              go_wp2
              all_goals
                go_ret
                exact ⟨rfl, hb7.out⟩
end Go.Proofs.YtlanggdmdpjfbaaDoor
