/-
  Lines that may be, of some.
-/
import Derived.Test.YtghkmagofadkfaaDoorCapsLaw2
import Derived.Test.YtghkmagofadkfaaDoorStep
namespace Go.Proofs.YtghkmagofadkfaaDoor
open Go.RowKit
set_option linter.unusedVariables false

def absM (v : Int) : Int := if v.tmod 1000000 < 0 then -(v.tmod 1000000) else v.tmod 1000000
def rgt (x : Ln) : Ln := ⟨x.c % 6 + 1, x.m % 6 + 1, x.i % 33, absM x.v⟩
theorem tmod_bd (v : Int) : -999999 ≤ v.tmod 1000000 ∧ v.tmod 1000000 ≤ 999999 := by
  by_cases h : 0 ≤ v
  · rw [Int.tmod_eq_emod_of_nonneg h]; omega
  · have e : v = -(-v) := by omega
    rw [e, Int.neg_tmod, Int.tmod_eq_emod_of_nonneg (by omega)]; omega
theorem absM_bd (v : Int) : 0 ≤ absM v ∧ absM v ≤ 999999 := by
  have := tmod_bd v
  unfold absM
  split <;> omega
theorem rgt_ok (x : Ln) : lnOk (rgt x) := by
  have := absM_bd x.v
  unfold lnOk rgt
  simp only
  omega
theorem rgt_all (l : List Ln) : ∀ x ∈ l.map rgt, lnOk x := fun x hx => by
  obtain ⟨y, _, rfl⟩ := List.mem_map.1 hx
  exact rgt_ok y
theorem rgt_tot (l : List Ln) : totL (l.map rgt) ≤ (l.length : Int) * 999999 := by
  induction l with
  | nil => simp [totL]
  | cons x l ih =>
    have := (absM_bd x.v).2
    simp only [List.map_cons, totL, List.length_cons]
    have e : (rgt x).v = absM x.v := rfl
    omega
abbrev RiS (w : World) (b o : Nat) (c m i v : Int) (W : World) : Prop :=
  (W.cell? ⟨b, o, none⟩ = some (.int .i64 c) ∧ W.cell? ⟨b, o + 1, none⟩ = some (.int .i64 m) ∧ W.cell? ⟨b, o + 2, none⟩ = some (.int .i64 i) ∧ W.cell? ⟨b, o + 3, none⟩ = some (.int .i64 v)) ∧ Below w.heap.size w W
def RiRel (l : List Ln) (w0 : World) (v i : Value) (w : World) : Prop := ∃ k : Nat, k ≤ l.length ∧ i = .int .i64 (k : Int) ∧ OwnLn w0.heap.size w v ((l.take k).map rgt) ∧ Below w0.heap.size w0 w
def RightAt (l : List Ln) (w : World) (e : Ending) (w' : World) : Prop := ∃ v, e = .returned v ∧ OwnLn w.heap.size w' v (l.map rgt) ∧ Below w.heap.size w w'
set_option maxRecDepth 100000 in
set_option maxHeartbeats 6400000 in
theorem right_any (w : World) (v : Value) (l : List Ln) (hr : Row lnV 4 w v l) (hl : l.length ≤ 1000) (hin : ∀ x ∈ l, lnIn x) : Calls Tryd.prog 20 #[v] w (RightAt l w) := by
  obtain ⟨a1, c1, rfl⟩ := row_slice hr
  have hx1 := hidden (fun k hk W (h2 : Below w.heap.size w W) => rowL_at (hr.below lnV_len h2 (Nat.le_refl _)) k hk)
  replace hin := hidden hin
  clear hr
  go_enter Tryd.func20, Tryd.ntmps20
  go_wp2_with fail
  go_loopw [3, 4] (fun v i wr => RiRel l w v i wr) (fun _ i _ => l.length - (RowKit.intOf i).toNat)
  case atStart => exact ⟨0, Nat.zero_le _, rfl, OwnR.nil _ _ _, Below.refl _ _⟩
  case round =>
    obtain ⟨k, hk, rfl, hown, hb⟩ := hrel
    by_cases hlt : k < l.length
    · obtain ⟨b, o, rfl, _⟩ := hx1.out k hlt _ hb
      have hq := hidden (fun W (h2 : Below w.heap.size w W) => show FourAt W b (o + k * 4) (l.getD k lnZ) by
        obtain ⟨b', o', e, q⟩ := hx1.out k hlt _ h2
        simp only [Option.some.injEq, Addr.mk.injEq, and_true] at e
        obtain ⟨rfl, rfl⟩ := e
        exact q)
      have hlI : (k : Int) < (l.length : Int) := by omega
      have hxi := hin.out _ (getL_mem hlt)
      have htk := hidden (show (l.take (k + 1)).map rgt = (l.take k).map rgt ++ [rgt (l.getD k lnZ)] by rw [take_snocL l k hlt, List.map_append]; rfl)
      have hlk := hidden (show ((l.take k).map rgt).length ≤ 1000000 by rw [List.length_map, List.length_take]; omega)
      generalize l.getD k lnZ = x at *
      obtain ⟨c, m, i, v⟩ := x
      obtain ⟨⟨h1, h2⟩, ⟨h3, h4⟩, ⟨h5, h6⟩, h7, h8⟩ := hxi
      simp only at h1 h2 h3 h4 h5 h6 h7 h8
      have nC := hidden (fun W => number_any c 6 W h1 h2 (by decide) (by decide))
      have nM := hidden (fun W => number_any m 6 W h3 h4 (by decide) (by decide))
      have nI := hidden (fun W => number_any i 33 W h5 h6 (by decide) (by decide))
      have hC6 : 0 ≤ c % 6 ∧ c % 6 ≤ 5 := by omega
      have hM6 : 0 ≤ m % 6 ∧ m % 6 ≤ 5 := by omega
      have hI6 : 0 ≤ i % 33 ∧ i % 33 ≤ 32 := by omega
      have hrg := hidden (show rgt ⟨c, m, i, v⟩ = ⟨c % 6 + 1, m % 6 + 1, i % 33, absM v⟩ from rfl)
      have hz0 := tmod_bd v
      obtain ⟨q0, q1, q2, q3⟩ := hq.out _ hb
      simp only at q0 q1 q2 q3
      have hq' := hidden (fun W (h : Below w.heap.size w W) => show RiS w b (o + k * 4) c m i v W from ⟨hq.out W h, h⟩)
      generalize c % 6 = cc at *
      generalize m % 6 = mm at *
      generalize i % 33 = ii at *
      replace hown := hidden hown
      have hBr := hidden hb.size
      replace hb := hidden hb
      clear h1 h2 h3 h4 h5 h6 h7 h8 hq hx1
      by_cases hz : v.tmod 1000000 < 0
      · have hu := hidden (show absM v = -(v.tmod 1000000) from if_pos hz)
        generalize he : v.tmod 1000000 = z at *
        have hel := hidden (show rgt ⟨c, m, i, v⟩ = ⟨cc + 1, mm + 1, ii, -z⟩ by rw [hrg.out, hu.out])
        have hs0 := hidden (hq'.out _ hb.out.drew)
        have hcs := hidden (show Below w.heap.size w wr.drew from hb.out.drew)
        have hwc : IntKind.i64.wrap (cc + 1) = cc + 1 := by rw [IntKind.wrap_i64]; omega
        have hwm : IntKind.i64.wrap (mm + 1) = mm + 1 := by rw [IntKind.wrap_i64]; omega
        clear q0 q1 q2 q3
        go_wp2_with fail
        first | (go_region_held3 (fun W => (W.cell? ⟨b, o + k * 4, none⟩ = some (.int .i64 c) ∧ W.cell? ⟨b, o + k * 4 + 1, none⟩ = some (.int .i64 m) ∧ W.cell? ⟨b, o + k * 4 + 2, none⟩ = some (.int .i64 i) ∧ W.cell? ⟨b, o + k * 4 + 3, none⟩ = some (.int .i64 v)) ∧ Below w.heap.size w W)
          ((first | exact hs0.out | assumption | exact hq'.out _ ((hcs.out.alloc hcs.out.size _).trans hb4) | exact hq'.out _ (hcs.out.alloc hcs.out.size _)))
          ((first
            | (go_at_call 21; (with_reducible refine (nC.out _).mono ?_); rintro e w' ⟨rfl, rfl⟩)
            | (go_at_call 21; (with_reducible refine (nM.out _).mono ?_); rintro e w' ⟨rfl, rfl⟩)
            | (go_at_call 21; (with_reducible refine (nI.out _).mono ?_); rintro e w' ⟨rfl, rfl⟩)
            | (refine step_appR (by rfl) _ _ _ (by rfl) lnV_len lnV_one (by decide) 58 Tryd.underlying23 infoLn (by rfl) (by decide) w.heap.size _ _ (by rfl) ((hown.out.below (Below.refl wr.heap.size wr).drew (Nat.le_refl _)).alloc _) (ys := [⟨cc + 1, mm + 1, ii, -z⟩]) (by rfl) (row_new (w := wr.drew) lnV_len _ [⟨cc + 1, mm + 1, ii, -z⟩] 1 rfl rfl (by decide)) hlk.out (by simp) ((hcs.out.alloc hcs.out.size _).size) ?_; intro v4 w4 hown4 hb4)))) | fail
        rename_i hh
        have hlow := hidden hh.2
        replace hown4 := hidden hown4
        clear hh hs0 hcs hb4 hq' nC nM nI
        go_wp2
        go_roundw
        case rel => exact ⟨k + 1, hlt, by go_num, by rw [htk.out, hel.out]; exact hown4.out, hlow.out⟩
        case measure => simp [RowKit.intOf]; omega
      · have hu := hidden (show absM v = v.tmod 1000000 from if_neg hz)
        generalize he : v.tmod 1000000 = z at *
        have hel := hidden (show rgt ⟨c, m, i, v⟩ = ⟨cc + 1, mm + 1, ii, z⟩ by rw [hrg.out, hu.out])
        have hs0 := hidden (hq'.out _ hb.out.drew)
        have hcs := hidden (show Below w.heap.size w wr.drew from hb.out.drew)
        have hwc : IntKind.i64.wrap (cc + 1) = cc + 1 := by rw [IntKind.wrap_i64]; omega
        have hwm : IntKind.i64.wrap (mm + 1) = mm + 1 := by rw [IntKind.wrap_i64]; omega
        clear q0 q1 q2 q3
        go_wp2_with fail
        first | (go_region_held3 (fun W => (W.cell? ⟨b, o + k * 4, none⟩ = some (.int .i64 c) ∧ W.cell? ⟨b, o + k * 4 + 1, none⟩ = some (.int .i64 m) ∧ W.cell? ⟨b, o + k * 4 + 2, none⟩ = some (.int .i64 i) ∧ W.cell? ⟨b, o + k * 4 + 3, none⟩ = some (.int .i64 v)) ∧ Below w.heap.size w W)
          ((first | exact hs0.out | assumption | exact hq'.out _ ((hcs.out.alloc hcs.out.size _).trans hb4) | exact hq'.out _ (hcs.out.alloc hcs.out.size _)))
          ((first
            | (go_at_call 21; (with_reducible refine (nC.out _).mono ?_); rintro e w' ⟨rfl, rfl⟩)
            | (go_at_call 21; (with_reducible refine (nM.out _).mono ?_); rintro e w' ⟨rfl, rfl⟩)
            | (go_at_call 21; (with_reducible refine (nI.out _).mono ?_); rintro e w' ⟨rfl, rfl⟩)
            | (refine step_appR (by rfl) _ _ _ (by rfl) lnV_len lnV_one (by decide) 58 Tryd.underlying23 infoLn (by rfl) (by decide) w.heap.size _ _ (by rfl) ((hown.out.below (Below.refl wr.heap.size wr).drew (Nat.le_refl _)).alloc _) (ys := [⟨cc + 1, mm + 1, ii, z⟩]) (by rfl) (row_new (w := wr.drew) lnV_len _ [⟨cc + 1, mm + 1, ii, z⟩] 1 rfl rfl (by decide)) hlk.out (by simp) ((hcs.out.alloc hcs.out.size _).size) ?_; intro v4 w4 hown4 hb4)))) | fail
        rename_i hh
        have hlow := hidden hh.2
        replace hown4 := hidden hown4
        clear hh hs0 hcs hb4 hq' nC nM nI
        go_wp2
        go_roundw
        case rel => exact ⟨k + 1, hlt, by go_num, by rw [htk.out, hel.out]; exact hown4.out, hlow.out⟩
        case measure => simp [RowKit.intOf]; omega
    · obtain rfl : k = l.length := by omega
      rw [List.take_length] at hown
      replace hown := hidden hown
      replace hb := hidden hb
      go_wp2
      go_ret
      exact ⟨_, rfl, hown.out, hb.out⟩
end Go.Proofs.YtghkmagofadkfaaDoor
