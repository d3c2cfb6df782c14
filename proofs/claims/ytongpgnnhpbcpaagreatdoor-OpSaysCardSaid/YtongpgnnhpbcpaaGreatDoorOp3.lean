/-
  Package op: what is checked at the end of Read and Parse; Bytes.
-/
import Derived.Test.YtongpgnnhpbcpaaGreatDoorOp2
import Derived.Deep.DeepCutAuto
namespace Go.Proofs.YtongpgnnhpbcpaaGreatDoor
open Go.RowKit
set_option linter.unusedVariables false

abbrev fldO (f : Nat → Int) : Obj := .cells #[.int .i64 (f 0), .int .i64 (f 1), .int .i64 (f 2), .int .i64 (f 3), .int .i64 (f 4), .int .i64 (f 5)] 53
/-- an operation of nothing, in a block. -/
abbrev zOb25 : Obj := .cells #[.int .i64 0, .int .i64 0, .int .i64 0, .int .i64 0, .int .i64 0, .int .i64 0, .int .i64 0, .int .i64 0] 23
/-- an operation in block g. -/
structure OpAt (w : World) (g : Nat) (o : Opv) : Prop where
  row : w.heap[g]? = some (opO o)
theorem OpAt.below {w w' : World} {g : Nat} {o : Opv} (h : OpAt w g o) (hb : Below w.heap.size w w') : OpAt w' g o := ⟨(hb.block g (Array.getElem?_eq_some_iff.1 h.row).1).trans h.row⟩
theorem OpAt.lt {w : World} {g : Nat} {o : Opv} (h : OpAt w g o) : g < w.heap.size := (Array.getElem?_eq_some_iff.1 h.row).1
theorem OpAt.cells {w : World} {g : Nat} {o : Opv} (h : OpAt w g o) : w.cell? ⟨g, 0, none⟩ = some (.int .i64 o.id) ∧ w.cell? ⟨g, 1, none⟩ = some (.int .i64 o.kd) ∧ w.cell? ⟨g, 2, none⟩ = some (.int .i64 o.a) ∧ w.cell? ⟨g, 3, none⟩ = some (.int .i64 o.b) ∧ w.cell? ⟨g, 4, none⟩ = some (.int .i64 o.c) ∧ w.cell? ⟨g, 5, none⟩ = some (.int .i64 o.d) ∧ w.cell? ⟨g, 6, none⟩ = some (.int .i64 o.n) ∧ w.cell? ⟨g, 7, none⟩ = some (.int .i64 o.m) := by
  refine ⟨?_, ?_, ?_, ?_, ?_, ?_, ?_, ?_⟩
  all_goals (rw [cell_of_row _ _ _ _ _ _ h.row]; rfl)
theorem OpAt.frozen {w : World} {g : Nat} {o : Opv} (h : OpAt w g o) (j : Nat) : w.frozen? ⟨g, j, none⟩ = false := by
  have := h.row
  simp [World.frozen?, this]
set_option maxHeartbeats 1600000 in
theorem OpAt.put {w : World} {g : Nat} {o : Opv} (h : OpAt w g o) (x : Opv) : OpAt ((((((((w.setCell ⟨g, 0, none⟩ (.int .i64 x.id)).setCell ⟨g, 1, none⟩ (.int .i64 x.kd)).setCell ⟨g, 2, none⟩ (.int .i64 x.a)).setCell ⟨g, 3, none⟩ (.int .i64 x.b)).setCell ⟨g, 4, none⟩ (.int .i64 x.c)).setCell ⟨g, 5, none⟩ (.int .i64 x.d)).setCell ⟨g, 6, none⟩ (.int .i64 x.n)).setCell ⟨g, 7, none⟩ (.int .i64 x.m)) g x := by
  refine ⟨?_⟩
  rw [heap_setCell_row (heap_setCell_row (heap_setCell_row (heap_setCell_row (heap_setCell_row (heap_setCell_row (heap_setCell_row (heap_setCell_row h.row _) _) _) _) _) _) _) _]
  rfl
theorem below_putO {w w' : World} {g : Nat} (h : Below w.heap.size w w') (hg : w.heap.size ≤ g) (v0 v1 v2 v3 v4 v5 v6 v7 : Value) : Below w.heap.size w ((((((((w'.setCell ⟨g, 0, none⟩ v0).setCell ⟨g, 1, none⟩ v1).setCell ⟨g, 2, none⟩ v2).setCell ⟨g, 3, none⟩ v3).setCell ⟨g, 4, none⟩ v4).setCell ⟨g, 5, none⟩ v5).setCell ⟨g, 6, none⟩ v6).setCell ⟨g, 7, none⟩ v7) :=
  (((((((h.setCell hg v0).setCell hg v1).setCell hg v2).setCell hg v3).setCell hg v4).setCell hg v5).setCell hg v6).setCell hg v7
theorem op_size : (Tryz.prog.info? 23).map (·.size) = some 8 := by kernel_rfl
theorem op_end {a : Act} {w : World} {fn : Func} {R : Ending → World → Prop} {p u : Tmp} {g : Nat} {x : Opv} {vb : Value}
    (h : fn.results = #[.cell p 23, .tmp u]) (hd : a.defers = []) (hp : a.tmps.getD p undef = .pointer (some ⟨g, 0, none⟩)) (hb : a.tmps.getD u undef = vb) (hg : OpAt w g x)
    (hR : R (.returned (.tuple #[opV x, vb])) w) : bodyPost Tryz.prog fn R .ret a w := by
  subst hb
  exact bodyPost_ret (results_cell2 h _ _ _ _ _ _ _ hp hg.row Tryz.underlying23 rfl op_size) hd hR
theorem errOf_bad25 (A : Nat → Addr) {c : Int} (h : c ≠ 0) : ∃ a, errOf A c = errAt a := ⟨_, if_neg h⟩

abbrev Six25 (f : Nat → Int) (g : Nat) (W : World) : Prop := W.cell? ⟨g, 0, none⟩ = some (.int .i64 (f 0)) ∧ W.cell? ⟨g, 1, none⟩ = some (.int .i64 (f 1)) ∧ W.cell? ⟨g, 2, none⟩ = some (.int .i64 (f 2)) ∧ W.cell? ⟨g, 3, none⟩ = some (.int .i64 (f 3)) ∧ W.cell? ⟨g, 4, none⟩ = some (.int .i64 (f 4)) ∧ W.cell? ⟨g, 5, none⟩ = some (.int .i64 (f 5))
theorem six25 {f : Nat → Int} {g : Nat} {w W : World} (h : w.heap[g]? = some (fldO f)) (hb : Below w.heap.size w W) : Six25 f g W ∧ Below w.heap.size w W := by
  have h2 : W.heap[g]? = some (fldO f) := (hb.block g (Array.getElem?_eq_some_iff.1 h).1).trans h
  refine ⟨⟨?_, ?_, ?_, ?_, ?_, ?_⟩, hb⟩
  all_goals (rw [cell_of_row _ _ _ _ _ _ h2]; rfl)
theorem six_low {f : Nat → Int} {g : Nat} {w W : World} (h : Six25 f g W ∧ Below w.heap.size w W) : Below w.heap.size w W := h.2

set_option maxRecDepth 100000 in
set_option maxHeartbeats 3200000 in
theorem checked_any (A : Nat → Addr) (id kd : Int) (f : Nat → Int) (w : World) (hS : ErrsOn [2, 10] w A) (hR : RowsOn w) (hf : ∀ i, i < 6 → f i ≤ 9223372036854775807) :
    Calls Tryz.prog 39 #[.int .i64 id, .int .i64 kd, fldV f] w fun e w' => e = .returned (.tuple #[opV (opR (mkO id kd f)), errOf A (opE (mkO id kd f))]) ∧ Below w.heap.size w w' := by
  have hV := hidden (fun W (hb : Below w.heap.size w W) => opValid_any A (mkO id kd f) W (hS.below hb (Nat.le_refl _)) (hR.below hb (Nat.le_refl _)))
  have n0 := hidden (fun W => narrow_any (f 0) W (hf 0 (by decide)))
  have n1 := hidden (fun W => narrow_any (f 1) W (hf 1 (by decide)))
  have n2 := hidden (fun W => narrow_any (f 2) W (hf 2 (by decide)))
  have n3 := hidden (fun W => narrow_any (f 3) W (hf 3 (by decide)))
  clear hS hR hf
  go_enter Tryz.func39, Tryz.ntmps39
  go_upto_region 1 with (fail)
  have hb0 := hidden (show Below w.heap.size w ((w.alloc (fldO f)).alloc zOb25) from ((Below.refl w.heap.size w).alloc (Nat.le_refl _) _).alloc (by simp) _)
  have hrow := hidden (show ((w.alloc (fldO f)).alloc zOb25).heap[w.heap.size]? = some (fldO f) by rw [heap_alloc_old _ _ (by simp)]; exact heap_alloc_new w _)
  have hres := hidden (show ((w.alloc (fldO f)).alloc zOb25).heap[w.heap.size + 1]? = some zOb25 by have := heap_alloc_new (w.alloc (fldO f)) zOb25; rwa [World.size_alloc] at this)
  generalize (w.alloc (fldO f)).alloc zOb25 = w2 at *
  go_cut [8] (fun v wx => ∃ g, v = .pointer (some ⟨g, 0, none⟩) ∧ OpAt wx g (mkO id kd f) ∧ Below w2.heap.size w2 wx)
  case first =>
    have hs0 := hidden (six25 hrow.out (Below.refl w2.heap.size w2).drew)
    go_region_held3 (fun W => (W.cell? ⟨w.heap.size, 0, none⟩ = some (.int .i64 (f 0)) ∧ W.cell? ⟨w.heap.size, 1, none⟩ = some (.int .i64 (f 1)) ∧ W.cell? ⟨w.heap.size, 2, none⟩ = some (.int .i64 (f 2)) ∧ W.cell? ⟨w.heap.size, 3, none⟩ = some (.int .i64 (f 3)) ∧ W.cell? ⟨w.heap.size, 4, none⟩ = some (.int .i64 (f 4)) ∧ W.cell? ⟨w.heap.size, 5, none⟩ = some (.int .i64 (f 5))) ∧ Below w2.heap.size w2 W)
      ((first | exact hs0.out | assumption | exact six25 hrow.out (((Below.refl w2.heap.size w2).alloc (Nat.le_refl _) _).drew) | exact six25 hrow.out ((six_low (by assumption)).alloc (six_low (by assumption)).size _)))
      ((first
        | (go_at_call 40; (with_reducible refine (n0.out _).mono ?_); rintro e' w5 ⟨rfl, rfl⟩)
        | (go_at_call 40; (with_reducible refine (n1.out _).mono ?_); rintro e' w5 ⟨rfl, rfl⟩)
        | (go_at_call 40; (with_reducible refine (n2.out _).mono ?_); rintro e' w5 ⟨rfl, rfl⟩)
        | (go_at_call 40; (with_reducible refine (n3.out _).mono ?_); rintro e' w5 ⟨rfl, rfl⟩)))
    all_goals (go_wp2_with fail; go_meet; exact ⟨_, rfl, ⟨heap_alloc_new w2 _⟩, ((Below.refl w2.heap.size w2).alloc (Nat.le_refl _) _).drew⟩)
  case rest =>
    obtain ⟨g, rfl, hg, hb⟩ := hcut
    have hbw := hidden (hb0.out.trans (hb.mono hb0.out.size))
    have hr := hidden ((OpAt.mk (o := zeO) hres.out).below hb)
    have hq := hidden (hV.out wc hbw.out)
    obtain ⟨c0, c1, c2, c3, c4, c5, c6, c7⟩ := hg.cells
    simp only [mkO] at c0 c1 c2 c3 c4 c5 c6 c7
    replace hg := hidden hg
    clear hV n0 n1 n2 n3 hb hrow hres hb0
    have hfin := hidden (show opE (mkO id kd f) = 0 ∧ opR (mkO id kd f) = mkO id kd f ∨ opE (mkO id kd f) ≠ 0 ∧ opR (mkO id kd f) = zeO by
      unfold opR
      by_cases h : opE (mkO id kd f) = 0
      · exact .inl ⟨h, if_pos h⟩
      · exact .inr ⟨h, if_neg h⟩)
    rcases hfin.out with ⟨h1, h2⟩ | ⟨h1, h2⟩
    · have he := hidden (show Ending.returned (.tuple #[opV (mkO id kd f), .nilIface]) = Ending.returned (.tuple #[opV (opR (mkO id kd f)), errOf A (opE (mkO id kd f))]) by rw [h2, h1]; rfl)
      rw [h1, show errOf A 0 = .nilIface from rfl] at hq
      clear h1 h2 hfin
      go_wp2_with fail
      refine hq.out.mono ?_
      rintro e w3 ⟨rfl, hb3⟩
      replace hbw := hidden (hbw.out.trans (hb3.mono hbw.out.size))
      replace hr := hidden (hr.out.below hb3)
      replace hg := hidden (hg.out.below hb3)
      clear c0 c1 c2 c3 c4 c5 c6 c7 hb3 hq
      obtain ⟨c0, c1, c2, c3, c4, c5, c6, c7⟩ := hg.out.cells
      obtain ⟨d0, d1, d2, d3, d4, d5, d6, d7⟩ := hr.out.cells
      simp only [mkO] at c0 c1 c2 c3 c4 c5 c6 c7
      simp only [zeO] at d0 d1 d2 d3 d4 d5 d6 d7
      have f0 := hr.out.frozen 0
      have f1 := hr.out.frozen 1
      have f2 := hr.out.frozen 2
      have f3 := hr.out.frozen 3
      have f4 := hr.out.frozen 4
      have f5 := hr.out.frozen 5
      have f6 := hr.out.frozen 6
      have f7 := hr.out.frozen 7
      go_wp2
      exact op_end rfl rfl rfl rfl (hr.out.put (mkO id kd f)) ⟨he.out, below_putO hbw.out (by omega) _ _ _ _ _ _ _ _⟩
    · obtain ⟨ea, hea⟩ := errOf_bad25 A h1
      have he := hidden (show Ending.returned (.tuple #[opV zeO, errAt ea]) = Ending.returned (.tuple #[opV (opR (mkO id kd f)), errOf A (opE (mkO id kd f))]) by rw [h2, hea])
      rw [hea] at hq
      clear h1 h2 hea hfin
      go_wp2_with fail
      refine hq.out.mono ?_
      rintro e w3 ⟨rfl, hb3⟩
      replace hbw := hidden (hbw.out.trans (hb3.mono hbw.out.size))
      replace hr := hidden (hr.out.below hb3)
      replace hg := hidden (hg.out.below hb3)
      clear c0 c1 c2 c3 c4 c5 c6 c7 hb3 hq
      obtain ⟨c0, c1, c2, c3, c4, c5, c6, c7⟩ := hg.out.cells
      obtain ⟨d0, d1, d2, d3, d4, d5, d6, d7⟩ := hr.out.cells
      simp only [mkO] at c0 c1 c2 c3 c4 c5 c6 c7
      simp only [zeO] at d0 d1 d2 d3 d4 d5 d6 d7
      have f0 := hr.out.frozen 0
      have f1 := hr.out.frozen 1
      have f2 := hr.out.frozen 2
      have f3 := hr.out.frozen 3
      have f4 := hr.out.frozen 4
      have f5 := hr.out.frozen 5
      have f6 := hr.out.frozen 6
      have f7 := hr.out.frozen 7
      go_wp2
      exact op_end rfl rfl rfl rfl (hr.out.put zeO) ⟨he.out, below_putO hbw.out (by omega) _ _ _ _ _ _ _ _⟩
end Go.Proofs.YtongpgnnhpbcpaaGreatDoor
