import Derived.Test.YtlfaffffkinigaaDoorDayBackWalk
import Derived.Test.YtlfaffffkinigaaDoorRefDayOf
import Derived.Deep.RegionHeld3
namespace Go.Proofs.YtlfaffffkinigaaDoor
open Go.RowKit
set_option linter.unusedVariables false

theorem lf_lo (e t : Int) : 0 ≤ lfV e t := by unfold lfV; split; omega; split <;> omega
theorem lf_same {e t : Int} (h : e ≤ 1099511627776) (h2 : -1099511627776 ≤ t) : rfV e t = lfV e t := by
  unfold rfV lfV
  split
  · rfl
  · rw [if_neg (by omega), if_neg (by omega)]
theorem codeOk_of {c : Int} (h : c = 0 ∨ (101 ≤ c ∧ c ≤ 121)) : codeOk c := h

/-- what the great test reads stays as it was. -/
theorem says_keep {w4 w' w'' : World} {B Bx Bd : Nat} {u0 u1 u2 u3 : Value} (h : w'.cell? ⟨Bx, 0, none⟩ = some u0 ∧ w'.cell? ⟨Bx, 1, none⟩ = some u1 ∧ w'.cell? ⟨Bx, 2, none⟩ = some u2 ∧ w'.cell? ⟨Bd, 0, none⟩ = some u3 ∧ Below w4.heap.size w4 w') (hb : Below w'.heap.size w' w'') :
    w''.cell? ⟨Bx, 0, none⟩ = some u0 ∧ w''.cell? ⟨Bx, 1, none⟩ = some u1 ∧ w''.cell? ⟨Bx, 2, none⟩ = some u2 ∧ w''.cell? ⟨Bd, 0, none⟩ = some u3 ∧ Below w4.heap.size w4 w'' := by
  obtain ⟨h0, h1, h2, h3, h4⟩ := h
  have key : ∀ (g j : Nat) v, w'.cell? ⟨g, j, none⟩ = some v → w''.cell? ⟨g, j, none⟩ = some v := fun g j v h => by
    rw [World.cell?_of_block (w := w') (hb.block _ (World.block_lt_of_cell? w' _ h))]; exact h
  exact ⟨key _ _ _ h0, key _ _ _ h1, key _ _ _ h2, key _ _ _ h3, h4.trans (hb.mono h4.size)⟩
theorem says_below {w w4 w' : World} {P0 P1 P2 P3 : Prop} (hw : Below w.heap.size w w4) (h : P0 ∧ P1 ∧ P2 ∧ P3 ∧ Below w4.heap.size w4 w') : Below w.heap.size w w' := hw.trans (h.2.2.2.2.mono hw.size)

set_option maxRecDepth 100000 in
set_option maxHeartbeats 8000000 in
theorem walk_daySays (Y M D n e t : Int) (A : Nat → Addr) (w : World) (hY : -9223372036854775808 ≤ Y) (hY2 : Y ≤ 9223372036854775807) (hM : -9223372036854775808 ≤ M) (hM2 : M ≤ 9223372036854775807) (hD : -9223372036854775808 ≤ D) (hD2 : D ≤ 9223372036854775807)
    (hn : -9223372036854775808 ≤ n) (hn2 : n ≤ 9223372036854775807) (he : -9223372036854775808 ≤ e) (he2 : e ≤ 9223372036854775807) (ht : -9223372036854775808 ≤ t) (ht2 : t ≤ 9223372036854775807) (hS : Sents w A) (hT : EndsOn w) :
    Calls Tryd.prog 3 #[dateV Y M D, .int .i64 n, .int .i64 e, .int .i64 t] w fun r w' => r = .returned (.bool true) ∧ Below w.heap.size w w' := by
  have hE := hidden (fun w' (h : Below w.heap.size w w') => (hS.on [2] (by decide)).below h (Nat.le_refl _))
  have hI := hidden (fun c (hc : codeOk c) w' (h : Below w.heap.size w w') => is_any A c c w' (hS.below h (Nat.le_refl _)) hc)
  have hT' := hidden (fun w' (h : Below w.heap.size w w') => hT.below h (Nat.le_refl _))
  clear hS hT hM hM2 hD hD2
  go_enter Tryd.func3, Tryd.ntmps3
  go_wp2_with fail
  refine (law4_first A _ (hE.out _ (below_date w Y M D))).mono ?_
  rintro r w1 ⟨rfl, hb⟩
  obtain ⟨c0, c1, c2, hw⟩ := date_cells hb
  have hz : w.heap.size < w1.heap.size := by have := hb.size; simp at this; omega
  clear hb
  replace hw := hidden hw
  go_wp2_with fail
  refine (dayOf_any A Y M D _ (hE.out _ hw.out) hY hY2).mono ?_
  rintro r w2 ⟨rfl, hb⟩
  obtain ⟨c0, c1, c2⟩ := cells3_then hz hb c0 c1 c2
  replace hz : w.heap.size < w2.heap.size := by have := hb.size; omega
  replace hw := hidden (hw.out.trans (hb.mono hw.out.size))
  clear hb
  have hoc := hidden (codeOk_of (ofC_ok Y M D))
  go_wp2_with (go_at_call 11; refine (refOf_any _ _ _ _ hY hY2).mono ?_; rintro e w' ⟨rfl, rfl⟩)
  refine (dayAt_any A n _ (hE.out _ hw.out) hn hn2).mono ?_
  rintro r w3 ⟨y, m, d, c, hd, rfl, hb⟩
  obtain ⟨c0, c1, c2⟩ := cells3_then hz hb c0 c1 c2
  replace hz : w.heap.size < w3.heap.size := by have := hb.size; omega
  replace hw := hidden (hw.out.trans (hb.mono hw.out.size))
  clear hb
  have hd' := hidden hd
  have hcc := hidden (codeOk_of (dat_code hd))
  clear hd
  go_wp2_with fail
  refine (refAt_any n _ hn hn2).mono ?_
  rintro r w' ⟨y', m', d', c', hd, rfl, rfl⟩
  obtain ⟨rfl, rfl, rfl, rfl⟩ := dat_one hd'.out hd
  clear hd hd'
  have hl0 := lf_lo e t
  have hls := hidden (lf_same (e := e) (t := t))
  go_wp2_with (first
    | (go_at_call 14; refine (left_any _ _ _ he he2 ht ht2).mono ?_; rintro e w' ⟨rfl, rfl⟩)
    | (go_at_call 15; refine (refLeft_any _ _ _ he he2 ht ht2).mono ?_; rintro e w' ⟨rfl, rfl⟩))
  obtain ⟨k0, k1, k2, hb⟩ := date_cells (w := w3) (y := y) (m := m) (d := d) (Below.refl _ _)
  obtain ⟨c0, c1, c2⟩ := cells3_then hz (below_date w3 y m d) c0 c1 c2
  replace hw := hidden (hw.out.trans (hb.mono hw.out.size))
  clear hb hz c1 c2
  generalize w3.alloc (dateO y m d) = w4 at k0 k1 k2 c0 hw ⊢
  generalize w3.heap.size = Bx at k0 k1 k2 ⊢
  have hs := says_keep (B := 0) ⟨k0, k1, k2, c0, Below.refl w4.heap.size w4⟩ ((Below.refl _ _).drew)
  have hs' := hidden hs
  clear k0 k1 k2 c0 hs
  go_region_held3 (fun w' => w'.cell? ⟨Bx, 0, none⟩ = some (.int .i64 y) ∧ w'.cell? ⟨Bx, 1, none⟩ = some (.int .i64 m) ∧ w'.cell? ⟨Bx, 2, none⟩ = some (.int .i64 d) ∧ w'.cell? ⟨w.heap.size, 0, none⟩ = some (.int .i64 Y) ∧ Below w4.heap.size w4 w')
    ((first | exact hs'.out | assumption | exact says_keep (B := 0) (by assumption) (by assumption)))
    (first
      | (go_at_call 16; with_reducible refine (hI.out _ hoc.out _ (says_below hw.out (by assumption))).mono ?_; rintro e w' ⟨rfl, hb1⟩)
      | (go_at_call 16; with_reducible refine (hI.out _ hcc.out _ (says_below hw.out (by assumption))).mono ?_; rintro e w' ⟨rfl, hb2⟩)
      | (go_at_call 17; refine (leap_any _ _ hY hY2).mono ?_; rintro e w' ⟨rfl, rfl⟩)
      | (go_at_call 18; refine (refLeap_any _ _ hY hY2).mono ?_; rintro e w' ⟨rfl, rfl⟩)
      | (go_at_call 19; refine (week_any _ _ hn hn2).mono ?_; rintro e w' ⟨rfl, rfl⟩)
      | (go_at_call 20; refine (refWeek_any _ _ hn hn2).mono ?_; rintro e w' ⟨rfl, rfl⟩)
      | (go_at_call 21; refine (bucket_any _ _ (hT'.out _ (says_below hw.out (by assumption)))).mono ?_; rintro e w' ⟨rfl, rfl⟩)
      | (go_at_call 22; refine (refBucket_any _ _).mono ?_; rintro e w' ⟨rfl, rfl⟩))
  rename_i hh
  have hend := hidden (says_below hw.out hh)
  clear hh hs' hw hI hE hT' hoc hcc
  by_cases q1 : 1099511627776 < lfV e t
  · go_wp2
    go_ret
    exact ⟨rfl, hend.out⟩
  · by_cases q2 : 1099511627776 < e
    · go_wp2
      go_ret
      exact ⟨rfl, hend.out⟩
    · by_cases q3 : t < -1099511627776
      · go_wp2
        go_ret
        exact ⟨rfl, hend.out⟩
      · rw [hls.out (by omega) (by omega)]
        go_wp2
        go_ret
        exact ⟨rfl, hend.out⟩
end Go.Proofs.YtlfaffffkinigaaDoor
