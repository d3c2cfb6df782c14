import Derived.Test.YtfoiclgipnlfnaaDoorSchedTurnsMath
import Derived.Test.YtfoiclgipnlfnaaDoorSchedLaw
import Derived.Test.YtfoiclgipnlfnaaDoorNumber
import Derived.Test.YtfoiclgipnlfnaaDoorLaidOn
namespace Go.Proofs.YtfoiclgipnlfnaaDoor
open Go.RowKit
set_option linter.unusedVariables false

def TuRel (l : List Int) (turned : Bool) (w0 : World) (g : Nat) (i : Value) (w : World) : Prop := ∃ k : Nat, k ≤ l.length ∧ i = .int .i64 (k : Int) ∧ SchAt w g (schT l turned k) ∧ Below w0.heap.size w0 w
def TwRel (l : List Int) (t : Int) (w0 : World) (v nx i : Value) (w : World) : Prop := ∃ k : Nat, k ≤ l.length ∧ i = .int .i64 (k : Int) ∧ v = .bool (onE ((tuE l).take k) 3 t) ∧ nx = .int .i64 (nxI (nxE ((tuE l).take k) 3 t (onE ((tuE l).take k) 3 t))) ∧ w0 = w
set_option maxRecDepth 100000 in
set_option maxHeartbeats 6400000 in
theorem walk_schedTurns (v : Value) (l : List Int) (t : Int) (turned : Bool) (A : Nat → Addr) (w : World) (hr : Reads .i64 w v l) (hl : ∀ x ∈ l, -9223372036854775808 ≤ x ∧ x ≤ 9223372036854775807) (t0 : -9223372036854775808 ≤ t) (t1 : t ≤ 9223372036854775807) (hS : SentsOn [2, 4] w A) :
    Calls Tryd.prog 4 #[v, .int .i64 t, .bool turned] w fun r w' => r = .returned (.bool true) ∧ Below w.heap.size w w' := by
  obtain ⟨va, vc, rfl⟩ := reads_slice hr
  have hF := hidden (law11_first A w hS.on)
  by_cases h20 : (20 : Int) < (l.length : Int)
  · clear hl t0 t1 hS hr
    go_enter Tryd.func4, Tryd.ntmps4
    go_wp2_with fail
    refine hF.out.mono ?_
    rintro r w1 ⟨rfl, hb⟩
    replace hb := hidden hb
    go_wp2
    go_ret
    exact ⟨rfl, hb.out⟩
  · have h21 : l.length ≤ 20 := by omega
    have hNu := hidden (fun W => number_any t 250 W t0 t1 (by decide) (by decide))
    obtain ⟨T, hT1⟩ : ∃ T : Nat, t % 250 = (T : Int) := ⟨(t % 250).toNat, by omega⟩
    have hT2 : (T : Int) < 250 := by omega
    rw [hT1] at hNu
    have hE := hidden hS.on
    have hz := hidden sched_zero
    have hx := hidden (fun k hk W (h : Below w.heap.size w W) => (hr.below h (Nat.le_refl _)).cell k hk)
    clear hS hl t0 t1 hT1 hr
    go_enter Tryd.func4, Tryd.ntmps4
    go_wp2_with fail
    refine hF.out.mono ?_
    rintro r w1 ⟨rfl, hb⟩
    have hn := hidden (schAt_new w1)
    have hg := hidden hb.size
    have hb1 := hidden (hb.alloc hb.size (.cells schF 28))
    clear hb hF
    generalize schF = F at *
    have hzz := hz.out
    have hlI : (l.length : Int) ≤ 20 := by omega
    go_wp2_with fail
    go_loopw [9] (fun i wr => TuRel l turned w w1.heap.size i wr) (fun i _ => l.length - (intOf i).toNat)
    case atStart => exact ⟨0, Nat.zero_le _, rfl, by rw [schT_zero]; exact hn.out, hb1.out⟩
    case round =>
      obtain ⟨k, hk, rfl, hT, hb⟩ := hrel
      clear hn hb1 hzz hz
      by_cases hlt : k < l.length
      · have hkI : (k : Int) < (l.length : Int) := by omega
        obtain ⟨m, hm⟩ : ∃ m, m = kT l turned k := ⟨_, rfl⟩
        have hml : m < l.length := by rw [hm]; unfold kT; split <;> omega
        obtain ⟨q1, q2⟩ := schT_next turned h21 hlt
        have hA := hidden (ladd hb hg.out hT hE.out (tE l (kT l turned k)))
        rw [q1, q2, errOf_fine, ← hm, show tE l m = ⟨10 * (m : Int) + 5, 3, ((l.getD m 0).tmod 2 == 0)⟩ from rfl] at hA
        obtain ⟨bl, o, rfl, c0⟩ := hx.out m hml wr hb
        generalize l.getD m 0 = x at *
        have hmI : (m : Int) < (l.length : Int) := by omega
        have hw10 : IntKind.i64.wrap (10 * (m : Int)) = 10 * (m : Int) := Go.IntWalk.i64_in _ (by omega)
        have hw15 : IntKind.i64.wrap (10 * (m : Int) + 5) = 10 * (m : Int) + 5 := Go.IntWalk.i64_in _ (by omega)
        clear q1 q2 hT hb
        cases turned
        · have hmk : m = k := hm
          subst hmk
          clear hm
          go_wp2_with fail
          refine hA.out.mono ?_
          rintro r w3 ⟨rfl, hT3, hb3⟩
          replace hT3 := hidden hT3
          replace hb3 := hidden hb3
          clear hA
          go_wp2
          go_roundw
          case rel => exact ⟨m + 1, hlt, by go_num, hT3.out, hb3.out⟩
          case measure => simp [intOf]; omega
        · have hmk : m = l.length - 1 - k := hm
          have hmk1 : (l.length : Int) - 1 - (k : Int) = (m : Int) := by omega
          clear hm hmk
          go_wp2_with fail
          refine hA.out.mono ?_
          rintro r w3 ⟨rfl, hT3, hb3⟩
          replace hT3 := hidden hT3
          replace hb3 := hidden hb3
          clear hA
          go_wp2
          go_roundw
          case rel => exact ⟨k + 1, hlt, by go_num, hT3.out, hb3.out⟩
          case measure => simp [intOf]; omega
      · obtain rfl : k = l.length := by omega
        rw [schT_all] at hT
        have hall : ∀ k, k < (tuE l).length → ((tuE l).getD k enZ).c = 3 ∧ 0 ≤ ((tuE l).getD k enZ).d := fun k hk => by
          rw [tuE_len] at hk
          rw [tuE_at hk]
          exact ⟨rfl, show (0 : Int) ≤ 10 * (k : Int) + 5 by omega⟩
        have hNx := hidden (fun W h => next_anyE (tuE l) w1.heap.size 3 (T : Int) W h)
        have hO3 := hidden (fun W h => on_anyE (tuE l) w1.heap.size 3 (T : Int) W h)
        have hO4 := hidden (fun W h => on_anyE (tuE l) w1.heap.size 4 (T : Int) W h)
        rw [onE_none (c := 4) (fun k hk => by rw [(hall k hk).1]; decide)] at hO4
        have hpos := hidden (fun d on (h : nxE (tuE l) 3 (T : Int) on = some d) => nxE_pos (fun k hk => (hall k hk).2) h)
        have htl := hidden (show (tuE l).take l.length = tuE l by rw [← tuE_len l, List.take_length])
        have hway := hidden (fun i h => @turn_ways l i (T : Int) h)
        replace hT := hidden hT
        replace hb := hidden hb
        clear hall hE
        go_wp2_with fail
        refine (hNu.out _).mono ?_
        rintro r w3 ⟨rfl, rfl⟩
        clear hNu
        go_wp2_with fail
        go_loopw [11, 12, 13] (fun v nx i wx => TwRel l (T : Int) wr v nx i wx) (fun _ _ i _ => l.length - (intOf i).toNat)
        case atStart => exact ⟨0, Nat.zero_le _, rfl, rfl, rfl, rfl⟩
        case round =>
          obtain ⟨i, hi, rfl, rfl, rfl, rfl⟩ := hrel
          by_cases hlt2 : i < l.length
          · have hiI : (i : Int) < (l.length : Int) := by omega
            obtain ⟨bl, o, rfl, c0⟩ := hx.out i hlt2 _ hb.out
            have hw10 : IntKind.i64.wrap (10 * (i : Int)) = 10 * (i : Int) := Go.IntWalk.i64_in _ (by omega)
            have hw15 : IntKind.i64.wrap (10 * (i : Int) + 5) = 10 * (i : Int) + 5 := Go.IntWalk.i64_in _ (by omega)
            have hw := hway.out i hlt2
            clear hNx hO3 hO4 hpos htl hway
            generalize hb1 : onE ((tuE l).take i) 3 (T : Int) = b at *
            generalize hz1 : nxI (nxE ((tuE l).take i) 3 (T : Int) b) = z at *
            clear hb1 hz1
            generalize l.getD i 0 = x at *
            rcases hw with ⟨h1, h2, h5⟩ | ⟨h1, h2, ⟨h4, h5⟩ | ⟨h4, h6, h5⟩ | ⟨h4, h6, h5⟩⟩
            · replace h2 := hidden h2
              replace h5 := hidden h5
              go_wp2
              go_roundw
              case rel => exact ⟨i + 1, hlt2, by go_num, by rw [h2.out], by rw [h2.out, h5.out], rfl⟩
              case measure => simp [intOf]; omega
            · replace h2 := hidden h2
              replace h5 := hidden h5
              go_wp2
              go_roundw
              case rel => exact ⟨i + 1, hlt2, by go_num, by rw [h2.out], by rw [h2.out, h5.out], rfl⟩
              case measure => simp [intOf]; omega
            · replace h2 := hidden h2
              replace h5 := hidden h5
              cases b
              all_goals
                go_wp2
                go_roundw
                case rel => exact ⟨i + 1, hlt2, by go_num, by rw [h2.out], by rw [h2.out, h5.out], rfl⟩
                case measure => simp [intOf]; omega
            · replace h2 := hidden h2
              replace h5 := hidden h5
              cases b
              all_goals
                simp only [Bool.not_true, Bool.not_false] at h6
                go_wp2
                go_roundw
                case rel => exact ⟨i + 1, hlt2, by go_num, by rw [h2.out], by rw [h2.out, h5.out], rfl⟩
                case measure => simp [intOf]; omega
          · obtain rfl : i = l.length := by omega
            rw [htl.out]
            clear hway hx htl
            unfold nxV at hNx
            generalize onE (tuE l) 3 (T : Int) = b at *
            have hp := hidden (fun d h => hpos.out d b h)
            clear hpos
            go_wp2_with fail
            refine (hNx.out _ hT.out).mono ?_
            rintro r w4 ⟨rfl, hb4⟩
            replace hT := hidden (hT.out.below hb4)
            replace hb := hidden (hb.out.trans (hb4.mono hb.out.size))
            clear hb4 hNx
            go_wp2_with fail
            refine (hO3.out _ hT.out).mono ?_
            rintro r w5 ⟨rfl, hb5⟩
            replace hT := hidden (hT.out.below hb5)
            replace hb := hidden (hb.out.trans (hb5.mono hb.out.size))
            clear hb5 hO3
            go_wp2_with fail
            refine (hO4.out _ hT.out).mono ?_
            rintro r w6 ⟨rfl, hb6⟩
            replace hb := hidden (hb.out.trans (hb6.mono hb.out.size))
            clear hb6 hO4 hT
            generalize hq : nxE (tuE l) 3 (T : Int) b = q at *
            cases q with
            | none =>
              clear hp
              simp only [nxI, Option.getD_none, Option.isSome_none]
              go_wp2
              go_ret
              exact ⟨rfl, hb.out⟩
            | some d =>
              have hd := hp.out d rfl
              clear hp
              simp only [nxI, Option.getD_some, Option.isSome_some]
              go_wp2
              go_ret
              exact ⟨rfl, hb.out⟩
end Go.Proofs.YtfoiclgipnlfnaaDoor
