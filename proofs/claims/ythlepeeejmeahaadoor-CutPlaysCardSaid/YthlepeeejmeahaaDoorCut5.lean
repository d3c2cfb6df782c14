/-
  All.
-/
import Derived.Test.YthlepeeejmeahaaDoorCut4
namespace Go.Proofs.YthlepeeejmeahaaDoor
open Go.RowKit Go.Maps
set_option linter.unusedVariables false

def stepV (s : StepT) : List Value := [.int .i64 s.1, .int .i64 s.2]
theorem stepV_len (s : StepT) : (stepV s).length = 2 := rfl
theorem stepV_one (s : StepT) : ∀ u ∈ stepV s, u.oneCell' = true := fun u hu => by
  simp only [stepV, List.mem_cons, List.not_mem_nil, or_false] at hu
  rcases hu with rfl | rfl <;> rfl
theorem infoSt : (Tryd.prog.info? 42).map (fun i => (i.zero, i.size, i.bytes)) = some (some (.agg #[.int .i64 0, .int .i64 0]), 2, 16) := by kernel_rfl
abbrev OwnSt (B : Nat) (w : World) (v : Value) (l : List StepT) : Prop := OwnR stepV 2 42 B w v l
theorem stepAt_of (k j : Nat) (h : j < 6) : stepAt (k * 6 + j) = ((k : Int) + 1, (j : Int)) := by
  unfold stepAt
  rw [show (k * 6 + j) / 6 = k by omega, show (k * 6 + j) % 6 = j by omega]
def AllSRel (T : StepT → Option Int) (w0 : World) (v i : Value) (w : World) : Prop := ∃ k : Nat, k ≤ 6 ∧ i = .int .i64 ((k : Int) + 1) ∧ OwnSt w0.heap.size w v (allK T (k * 6)) ∧ Below w0.heap.size w0 w
def AllSIn (T : StepT → Option Int) (k : Nat) (w0 : World) (v i : Value) (w : World) : Prop := ∃ j : Nat, j ≤ 6 ∧ i = .int .i64 (j : Int) ∧ OwnSt w0.heap.size w v (allK T (k * 6 + j)) ∧ Below w0.heap.size w0 w
def AllSAt (l : List StepT) (w : World) (e : Ending) (w' : World) : Prop := ∃ v, e = .returned v ∧ OwnSt w.heap.size w' v l ∧ Below w.heap.size w w'
/-- what is read for one step: the map's variable, the step's cells, what is found. -/
abbrev HasS (w0 : World) (g k n : Nat) (m : Option Nat) (T : StepT → Option Int) (c b v : Int) (o : Bool) (W : World) : Prop :=
  (W.cell? ⟨g, 0, none⟩ = some (.map m) ∧ W.cell? ⟨k, 0, none⟩ = some (.int .i64 c) ∧ W.cell? ⟨k, 1, none⟩ = some (.int .i64 b)) ∧
  (Instr.lookup 26 (.map m) (.agg #[.int .i64 c, .int .i64 b]) true).run Tryd.prog W = .ok (.tuple #[.int .i64 v, .bool o]) W ∧ Below w0.heap.size w0 W
theorem hasS_new {w w' : World} {B g n : Nat} {T : StepT → Option Int} {fx : Int} (h : LadAt w B g n T fx) {m : Option Nat} (hm : w.cell? ⟨g, 0, none⟩ = some (.map m)) (hb : Below w.heap.size w w') {c b : Int} (hs : stIn (c, b)) :
    HasS w g w'.heap.size n m T c b ((T (c, b)).getD 0) (T (c, b)).isSome (w'.alloc (stpO (c, b))).drew := by
  have hb2 := (hb.alloc hb.size (stpO (c, b))).drew
  obtain ⟨m', hg, hm', _⟩ := (h.below hb2 (Nat.le_refl _)).ex
  have hc : (w'.alloc (stpO (c, b))).drew.cell? ⟨g, 0, none⟩ = some (.map m) := by rw [World.cell?_of_block (w := w) (hb2.block _ h.lt)]; exact hm
  have e : m' = m := by
    rw [cell_of_row _ _ _ _ _ _ hg] at hc
    simpa using hc
  subst e
  have hh : (w'.alloc (stpO (c, b))).drew.heap[w'.heap.size]? = some (stpO (c, b)) := heap_alloc_new w' (stpO (c, b))
  exact ⟨⟨hc, by rw [cell_of_row _ _ _ _ _ _ hh]; rfl, by rw [cell_of_row _ _ _ _ _ _ hh]; rfl⟩, hm'.look_ok step_enc Tryd.underlying26 Tryd.underlying2 (cut_zero _) (c, b) hs, hb2⟩
set_option maxRecDepth 100000 in
set_option maxHeartbeats 6400000 in
theorem all_anyC (w : World) (B g n : Nat) (T : StepT → Option Int) (fx : Int) (h : LadAt w B g n T fx) : Calls Tryd.prog 13 #[.pointer (some ⟨g, 0, none⟩)] w (AllSAt (allS T) w) := by
  obtain ⟨m, hg, _⟩ := h.ex
  have hm : w.cell? ⟨g, 0, none⟩ = some (.map m) := by rw [cell_of_row _ _ _ _ _ _ hg]; rfl
  have hH := hidden (fun w' (hb : Below w.heap.size w w') c b hs => @hasS_new w w' B g n T fx h m hm hb c b hs)
  have hnx := hidden (allK_next T)
  clear h hg hm
  go_enter Tryd.func13, Tryd.ntmps13
  go_wp2_with fail
  go_loopw [3, 4] (fun v i wr => AllSRel T w v i wr) (fun _ i _ => 7 - (RowKit.intOf i).toNat)
  case atStart => exact ⟨0, by omega, rfl, OwnR.nil _ _ _, Below.refl _ _⟩
  case round =>
    obtain ⟨k, hk, rfl, hown, hb⟩ := hrel
    by_cases hlt : k < 6
    · have hkI : (k : Int) + 1 ≤ 6 := by omega
      replace hown := hidden hown
      replace hb := hidden hb
      go_wp2_with fail
      go_loopw [3, 13] (fun v i wr => AllSIn T k w v i wr) (fun _ i _ => 6 - (RowKit.intOf i).toNat)
      case atStart => exact ⟨0, by omega, rfl, hown.out, hb.out⟩
      case round =>
        clear hown hb
        obtain ⟨j, hj, rfl, hown, hb⟩ := hrel
        by_cases hj6 : j < 6
        · have hjI : (j : Int) < 6 := by omega
          have hs0 := hidden (hH.out wr hb ((k : Int) + 1) (j : Int) (by unfold stIn; simp only; omega))
          have hn1 := hidden (hnx.out (k * 6 + j))
          rw [stepAt_of k j hj6] at hn1
          have hlk := hidden (show (allK T (k * 6 + j)).length ≤ 1000000 by have := allK_le T (k * 6 + j); omega)
          replace hown := hidden (show OwnSt w.heap.size (wr.alloc (stpO ((k : Int) + 1, (j : Int)))).drew _ _ from hown.alloc (stpO ((k : Int) + 1, (j : Int))))
          replace hb := hidden ((hb.alloc hb.size (stpO ((k : Int) + 1, (j : Int)))).drew)
          generalize (T ((k : Int) + 1, (j : Int))).getD 0 = vv at *
          cases hO : (T ((k : Int) + 1, (j : Int))).isSome with
          | false =>
            rw [hO] at hs0 hn1
            clear hO hnx
            go_wp2_with fail
            go_region_held3 (fun W => (W.cell? ⟨g, 0, none⟩ = some (.map m) ∧ W.cell? ⟨wr.heap.size, 0, none⟩ = some (.int .i64 ((k : Int) + 1)) ∧ W.cell? ⟨wr.heap.size, 1, none⟩ = some (.int .i64 (j : Int))) ∧
                (Instr.lookup 26 (.map m) (.agg #[.int .i64 ((k : Int) + 1), .int .i64 (j : Int)]) true).run Tryd.prog W = .ok (.tuple #[.int .i64 vv, .bool false]) W ∧ Below w.heap.size w W)
              (exact hs0.out) (fail)
            go_wp2
            go_roundw
            case rel => exact ⟨j + 1, by omega, by go_num, by rw [← Nat.add_assoc, hn1.out]; simpa using hown.out, hb.out⟩
            case measure => simp [RowKit.intOf]; omega
          | true =>
            rw [hO] at hs0 hn1
            clear hO hnx
            go_wp2_with fail
            go_region_held3 (fun W => (W.cell? ⟨g, 0, none⟩ = some (.map m) ∧ W.cell? ⟨wr.heap.size, 0, none⟩ = some (.int .i64 ((k : Int) + 1)) ∧ W.cell? ⟨wr.heap.size, 1, none⟩ = some (.int .i64 (j : Int))) ∧
                (Instr.lookup 26 (.map m) (.agg #[.int .i64 ((k : Int) + 1), .int .i64 (j : Int)]) true).run Tryd.prog W = .ok (.tuple #[.int .i64 vv, .bool true]) W ∧ Below w.heap.size w W)
              (exact hs0.out) (fail)
            obtain ⟨k0, k1⟩ := hs0.out.1.2
            have hBr := hidden hb.out.size
            go_wp2_with (at_builtin; refine wpList_appR1 rfl _ _ 46 rfl stepV_len stepV_one (by decide) 42 Tryd.underlying46 infoSt rfl (by decide) w.heap.size _ (allK T (k * 6 + j)) rfl hown.out ((k : Int) + 1, (j : Int)) _ rfl _ rfl (by simp) hlk.out hBr.out ?_)
            intro v2 w2 hown2 hb2
            replace hown2 := hidden hown2
            replace hb2 := hidden (hb.out.trans hb2)
            go_wp2
            go_roundw
            case rel => exact ⟨j + 1, by omega, by go_num, by rw [← Nat.add_assoc, hn1.out]; exact hown2.out, hb2.out⟩
            case measure => simp [RowKit.intOf]; omega
        · obtain rfl : j = 6 := by omega
          replace hown := hidden hown
          replace hb := hidden hb
          go_wp2
          go_roundw
          case rel => exact ⟨k + 1, by omega, by go_num, by rw [show (k + 1) * 6 = k * 6 + 6 by omega]; exact hown.out, hb.out⟩
          case measure => simp [RowKit.intOf]; omega
    · obtain rfl : k = 6 := by omega
      replace hown := hidden hown
      replace hb := hidden hb
      go_wp2
      go_ret
      exact ⟨_, rfl, hown.out, hb.out⟩
end Go.Proofs.YthlepeeejmeahaaDoor
