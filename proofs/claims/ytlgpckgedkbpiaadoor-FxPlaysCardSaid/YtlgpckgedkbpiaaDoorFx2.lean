/-
  fx: Base, All; the chapter's example.
-/
import Derived.Test.YtlgpckgedkbpiaaDoorFx1
import Derived.Test.YtlgpckgedkbpiaaDoorMoney
import Derived.Test.YtlgpckgedkbpiaaDoorShare
namespace Go.Proofs.YtlgpckgedkbpiaaDoor
open Go.RowKit
set_option linter.unusedVariables false

def raCap (v r : Int) : Int := capV (win v 1000000000000000 && win r 1000000000) v r 1000000 false
def raCapC (v r : Int) : Int := capC (win v 1000000000000000 && win r 1000000000) v r 1000000 false
def raBV (f : Nat → Int) (v m : Int) : Int := if raB f m = true then raCap v (raV f m) else 0
def raBC (f : Nat → Int) (v m : Int) : Int := if raB f m = true then raCapC v (raV f m) else 106
theorem raBC_code (f : Nat → Int) (v m : Int) : codeOk (raBC f v m) := by
  unfold raBC
  split
  · exact capC_ok _ _ _ _ _
  · exact .inr (by decide)
set_option maxHeartbeats 1600000 in
theorem raBase_any (A : Nat → Addr) (w : World) (g : Nat) (f : Nat → Int) (v m : Int) (h : RaAt w g raTy f) (hE : ErrsOn [2, 3, 5] w A) (hv : -9223372036854775808 ≤ v) (hv2 : v ≤ 9223372036854775807) :
    Calls Tryd.prog 11 #[.pointer (some ⟨g, 0, none⟩), .int .i64 v, .int .i64 m] w fun e w' => e = .returned (.tuple #[.int .i64 (raBV f v m), errOf A (raBC f v m)]) ∧ ∃ n, w' = w.drewN n := by
  have hN : w.cell? ⟨1, 0, none⟩ = some (errAt (A 5)) := hE 5 (by decide)
  have hG := hidden (raGet_any w g f m h)
  have hB := hidden (base_any A v (raV f m) w (hE.sub (by decide)) hv hv2 (by have := (h.ok.val m).1; omega) (by have := (h.ok.val m).2; omega))
  clear h hE hv hv2
  unfold raBV raBC raCap raCapC
  cases hx : raB f m with
  | true =>
    rw [hx] at hG
    rw [if_pos rfl, if_pos rfl]
    generalize raV f m = r at *
    clear hx hN
    go_enter Tryd.func11, Tryd.ntmps11
    go_wp2_with fail
    refine hG.out.mono ?_
    rintro e w' ⟨rfl, rfl⟩
    go_wp2_with fail
    refine hB.out.mono ?_
    rintro e w' ⟨rfl, n, rfl⟩
    go_wp2
    go_ret2
    exact ⟨rfl, n, rfl⟩
  | false =>
    rw [hx] at hG
    rw [if_neg (by decide), if_neg (by decide)]
    generalize raV f m = r at *
    clear hx hB
    go_enter Tryd.func11, Tryd.ntmps11
    go_wp2_with fail
    refine hG.out.mono ?_
    rintro e w' ⟨rfl, rfl⟩
    go_wp2_with fail
    go_quiet (fail)
    go_wp2
    go_ret2
    exact ⟨rfl, _, rfl⟩
theorem infoRa : (Tryd.prog.info? 3).map (fun i => (i.zero, i.size, i.bytes)) = some (some (.int .i64 0), 1, 8) := by kernel_rfl
abbrev OwnRa (B : Nat) (w : World) (v : Value) (l : List Int) : Prop := w.ownsRow B 3 1 v l.length (l.map (Value.int .i64))
def RaAllRel (f : Nat → Int) (w0 : World) (v i : Value) (w : World) : Prop := ∃ k : Nat, k ≤ 6 ∧ i = .int .i64 ((k : Int) + 1) ∧ OwnRa w0.heap.size w v (raL f k) ∧ Below w0.heap.size w0 w
set_option maxHeartbeats 3200000 in
theorem raAll_any (w : World) (g : Nat) (f : Nat → Int) (h : RaAt w g raTy f) :
    Calls Tryd.prog 13 #[.pointer (some ⟨g, 0, none⟩)] w fun e w' => ∃ v, e = .returned v ∧ OwnRa w.heap.size w' v (raL f 6) ∧ Below w.heap.size w w' := by
  have hG := hidden (fun W (hb : Below w.heap.size w W) m => raGet_any W g f m (h.below hb))
  clear h
  go_enter Tryd.func13, Tryd.ntmps13
  go_wp2_with fail
  go_loopw [3, 4] (fun v i wr => RaAllRel f w v i wr) (fun _ i _ => 7 - (RowKit.intOf i).toNat)
  case atStart => exact ⟨0, by omega, rfl, ⟨rfl, .inl ⟨rfl, rfl⟩⟩, Below.refl _ _⟩
  case round =>
    obtain ⟨k, hk, rfl, hown, hb⟩ := hrel
    by_cases hlt : k < 6
    · have hkI : (k : Int) + 1 ≤ 6 := by omega
      have hl := hidden (raL_len f k)
      have hG1 := hidden (hG.out wr hb ((k : Int) + 1))
      replace hown := hidden hown
      replace hb := hidden hb
      clear hG
      cases hx : raB f ((k : Int) + 1) with
      | true =>
        rw [hx] at hG1
        have hn := hidden (raL_yes hx)
        generalize raV f ((k : Int) + 1) = r at *
        clear hx
        go_wp2_with fail
        refine hG1.out.mono ?_
        rintro e w' ⟨rfl, rfl⟩
        clear hG1
        have hB := hidden hb.out.size
        have hl6 := hidden (show (raL f k).length ≤ 1099511627776 by have := hl.out; omega)
        go_wp2_with (at_builtin; refine wpList_app1 rfl _ _ 36 rfl 3 Tryd.underlying36 infoRa rfl (by decide) w.heap.size _ _ _ rfl hown.out _ rfl rfl hl6.out hB.out ?_)
        intro v2 w2 hown2 hb2
        replace hown2 := hidden hown2
        replace hb2 := hidden (hb.out.trans hb2)
        go_wp2
        go_roundw
        case rel => exact ⟨k + 1, by omega, by go_num, by rw [hn.out]; unfold OwnRa; rw [List.length_append, List.map_append]; exact hown2.out, hb2.out⟩
        case measure => simp [RowKit.intOf]; omega
      | false =>
        rw [hx] at hG1
        have hn := hidden (raL_no hx)
        generalize raV f ((k : Int) + 1) = r at *
        clear hx
        go_wp2_with fail
        refine hG1.out.mono ?_
        rintro e w' ⟨rfl, rfl⟩
        clear hG1
        go_wp2
        go_roundw
        case rel => exact ⟨k + 1, by omega, by go_num, by rw [hn.out]; exact hown.out, hb.out⟩
        case measure => simp [RowKit.intOf]; omega
    · obtain rfl : k = 6 := by omega
      replace hown := hidden hown
      replace hb := hidden hb
      go_wp2
      go_ret
      exact ⟨_, rfl, hown.out, hb.out⟩
theorem law13_first (A : Nat → Addr) (w : World) (hE : ErrsOn [2, 3, 5] w A) : Calls Tryd.prog 5 #[] w fun e w' => e = .returned (.bool true) ∧ Below w.heap.size w w' := by
  have hb0 := hidden ((Below.refl w.heap.size w).alloc (Nat.le_refl _) (.cells #[.int .i64 0, .int .i64 0, .int .i64 0, .int .i64 0, .int .i64 0, .int .i64 0, .int .i64 0] 26))
  have hB := raBase_any A _ w.heap.size ra0 5 1 (raAt_new w _) (hE.below hb0.out (Nat.le_refl _)) (by decide) (by decide)
  rw [show raBV ra0 5 1 = 5 by decide, show errOf A (raBC ra0 5 1) = .nilIface by rw [show raBC ra0 5 1 = 0 by decide]; rfl] at hB
  replace hB := hidden hB
  clear hE
  go_enter Tryd.func5, Tryd.ntmps5
  go_wp2_with fail
  refine hB.out.mono ?_
  rintro e w' ⟨rfl, n, rfl⟩
  go_wp2
  go_ret
  exact ⟨rfl, below_drewN hb0.out⟩
end Go.Proofs.YtlgpckgedkbpiaaDoor
