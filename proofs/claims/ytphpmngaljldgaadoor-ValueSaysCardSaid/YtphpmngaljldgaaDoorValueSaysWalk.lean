import Derived.Test.YtphpmngaljldgaaDoorValueLaw
import Derived.Test.YtphpmngaljldgaaDoorValueOther
import Derived.Test.YtphpmngaljldgaaDoorIsSelf
import Derived.Deep.RegionHeld3
import Derived.Deep.DeepCutAuto
namespace Go.Proofs.YtphpmngaljldgaaDoor
open Go.RowKit
set_option linter.unusedVariables false

/-- the cells of an asset and of terms, side by side. -/
abbrev TwoC (W : World) (g : Nat) (i s c m e t o : Int) (n : Bool) (p x z : Int) : Prop :=
  (W.cell? ⟨g, 0, none⟩ = some (.int .i64 i) ∧ W.cell? ⟨g, 1, none⟩ = some (.int .i64 s) ∧ W.cell? ⟨g, 2, none⟩ = some (.int .i64 c) ∧ W.cell? ⟨g, 3, none⟩ = some (.int .i64 m) ∧ W.cell? ⟨g, 4, none⟩ = some (.int .i64 e)) ∧
  (W.cell? ⟨g + 1, 0, none⟩ = some (.int .i64 t) ∧ W.cell? ⟨g + 1, 1, none⟩ = some (.int .i64 o) ∧ W.cell? ⟨g + 1, 2, none⟩ = some (.bool n) ∧ W.cell? ⟨g + 1, 3, none⟩ = some (.int .i64 p) ∧ W.cell? ⟨g + 1, 4, none⟩ = some (.int .i64 x) ∧ W.cell? ⟨g + 1, 5, none⟩ = some (.int .i64 z))
theorem twoS {w3 W : World} {g : Nat} {i s c m e t o : Int} {n : Bool} {p x z : Int} (h : Two15 w3 g tmTy ⟨i, s, c, m, e⟩ ⟨t, o, n, p, x, z⟩) (hb : Below w3.heap.size w3 W) : TwoC W g i s c m e t o n p x z ∧ Below w3.heap.size w3 W :=
  ⟨⟨(h.below hb).a.cells, (h.below hb).y.cells⟩, hb⟩
theorem stAt_drew (w : World) (t : TypeId) (s : StT) : StAt (w.alloc (stO t s)).drew w.heap.size t s := ⟨heap_alloc_new w _⟩
theorem twoS_low {w3 W : World} {g : Nat} {i s c m e t o : Int} {n : Bool} {p x z : Int} (h : TwoC W g i s c m e t o n p x z ∧ Below w3.heap.size w3 W) : Below w3.heap.size w3 W := h.2
abbrev SixC (W : World) (gs gx : Nat) (sw sb sv : Int) : Prop :=
  (W.cell? ⟨gs, 0, none⟩ = some (.int .i64 sw) ∧ W.cell? ⟨gs, 1, none⟩ = some (.int .i64 sb) ∧ W.cell? ⟨gs, 2, none⟩ = some (.int .i64 sv)) ∧
  (W.cell? ⟨gx, 0, none⟩ = some (.int .i64 sw) ∧ W.cell? ⟨gx, 1, none⟩ = some (.int .i64 sb) ∧ W.cell? ⟨gx, 2, none⟩ = some (.int .i64 sv))
theorem sixS {w3 W : World} {g gs gx : Nat} {i s c m e t o : Int} {n : Bool} {p x z sw sb sv : Int} (h : Two15 w3 g tmTy ⟨i, s, c, m, e⟩ ⟨t, o, n, p, x, z⟩) (h2 : StAt w3 gs stTy ⟨sw, sb, sv⟩) (h3 : StAt w3 gx stTyR ⟨sw, sb, sv⟩) (hb : Below w3.heap.size w3 W) : TwoC W g i s c m e t o n p x z ∧ SixC W gs gx sw sb sv ∧ Below w3.heap.size w3 W :=
  ⟨⟨(h.below hb).a.cells, (h.below hb).y.cells⟩, ⟨(h2.below hb).cells, (h3.below hb).cells⟩, hb⟩
theorem sixS_low {w3 W : World} {g gs gx : Nat} {i s c m e t o : Int} {n : Bool} {p x z sw sb sv : Int} (h : TwoC W g i s c m e t o n p x z ∧ SixC W gs gx sw sb sv ∧ Below w3.heap.size w3 W) : Below w3.heap.size w3 W := h.2.2
set_option maxRecDepth 100000 in
set_option maxHeartbeats 16000000 in
theorem walk_valueSays (a : As) (q : Int) (y : Tm) (A : Nat → Addr) (w : World) (ha : AsBig a) (q0 : -9223372036854775808 ≤ q) (q1 : q ≤ 9223372036854775807) (hy : TmBig y) (hS : Sents w A) :
    Calls Tryd.prog 3 #[asA a, .int .i64 q, tmA y] w fun e w' => e = .returned (.bool true) ∧ Below w.heap.size w w' := by
  have hn := hidden (two15_new w tmTy a y)
  have hE := hidden (fun W (h : Below w.heap.size w W) => (hS.on [2, 3] (by decide)).below h (Nat.le_refl _))
  have hF := hidden (fun W (h : Below w.heap.size w W) => law15_first A W (hE.out W h))
  have hOf := hidden (fun W (h : Below w.heap.size w W) => valueOf_any A a q y W (hE.out W h) ha ⟨q0, q1⟩ hy)
  have hV := hidden (fun W => refValue_any a q y W ⟨q0, q1⟩ hy)
  have hO := hidden (fun W => other_any y W)
  have hC := hidden (fun W => counts_any a y W ha hy)
  have hRC := hidden (fun W => refCounts_any a y W)
  have hI := hidden (fun W (h : Below w.heap.size w W) => is_self A (vaC a q y) W (hS.below h (Nat.le_refl _)) (vaC_ok a q y))
  clear ha hy hS hE q0 q1
  generalize vaS a q y = S at *
  generalize vaC a q y = C at *
  generalize cnB a y = cn at *
  obtain ⟨i, s, c, m, e⟩ := a
  obtain ⟨t, o, n, p, x, z⟩ := y
  obtain ⟨sw, sb, sv⟩ := S
  go_enter Tryd.func3, Tryd.ntmps3
  go_wp2_with fail
  refine (hF.out _ hn.out.2).mono ?_
  rintro r w1 ⟨rfl, hb⟩
  have hT := hidden (hn.out.1.below hb)
  have hb1 := hidden (hn.out.2.trans (hb.mono hn.out.2.size))
  clear hb hn hF
  obtain ⟨a0, a1, a2, a3, a4⟩ := hT.out.a.cells
  obtain ⟨t0, t1, t2, t3, t4, t5⟩ := hT.out.y.cells
  simp only at a0 a1 a2 a3 a4 t0 t1 t2 t3 t4 t5
  go_wp2_with fail
  refine (hOf.out _ hb1.out).mono ?_
  rintro r w2 ⟨rfl, hb⟩
  have hs := hidden (stAt_new w2 stTy ⟨sw, sb, sv⟩)
  have hb2 := hidden (hb.alloc hb.size (stO stTy ⟨sw, sb, sv⟩))
  replace hT := hidden (hT.out.below hb2.out)
  replace hb1 := hidden (hb1.out.trans (hb2.out.mono hb1.out.size))
  clear hb hb2 a0 a1 a2 a3 a4 t0 t1 t2 t3 t4 t5 hOf
  generalize errOf A C = ev at *
  go_upto_region 5 with (fail)
  generalize w2.alloc (stO stTy ⟨sw, sb, sv⟩) = w3 at *
  generalize w2.heap.size = gs at *
  go_cut [10, 11] (fun v b wx => ∃ g, v = .pointer (some ⟨g, 0, none⟩) ∧ b = .int .i64 C ∧ StAt wx g stTyR ⟨sw, sb, sv⟩ ∧ Below w3.heap.size w3 wx)
  case first =>
    have hs0 := hidden (twoS hT.out (Below.refl w3.heap.size w3).drew)
    go_region_held3 (fun W => ((W.cell? ⟨w.heap.size, 0, none⟩ = some (.int .i64 i) ∧ W.cell? ⟨w.heap.size, 1, none⟩ = some (.int .i64 s) ∧ W.cell? ⟨w.heap.size, 2, none⟩ = some (.int .i64 c) ∧ W.cell? ⟨w.heap.size, 3, none⟩ = some (.int .i64 m) ∧ W.cell? ⟨w.heap.size, 4, none⟩ = some (.int .i64 e)) ∧
        (W.cell? ⟨w.heap.size + 1, 0, none⟩ = some (.int .i64 t) ∧ W.cell? ⟨w.heap.size + 1, 1, none⟩ = some (.int .i64 o) ∧ W.cell? ⟨w.heap.size + 1, 2, none⟩ = some (.bool n) ∧ W.cell? ⟨w.heap.size + 1, 3, none⟩ = some (.int .i64 p) ∧ W.cell? ⟨w.heap.size + 1, 4, none⟩ = some (.int .i64 x) ∧ W.cell? ⟨w.heap.size + 1, 5, none⟩ = some (.int .i64 z))) ∧ Below w3.heap.size w3 W)
      ((first | exact hs0.out | assumption | exact twoS hT.out ((twoS_low (by assumption)).trans (hb5.mono (twoS_low (by assumption)).size)) | exact twoS hT.out hz6.out | exact twoS hT.out ((twoS_low (by assumption)).alloc (twoS_low (by assumption)).size _) | exact twoS hT.out (hz6.out.alloc hz6.out.size _) | exact twoS hT.out (below_put15 hz6.out hg6.out _ _ _)))
      ((first
        | (go_at_call 10; (with_reducible refine (hO.out _).mono ?_); rintro e' w5 ⟨rfl, hb5⟩; try (have hx5 : Hid (StAt w5 w3.heap.size stTyR vsZ) := hidden ((stAt_drew w3 stTyR vsZ).below hb5); have hg5 := hidden (Nat.le_refl w3.heap.size)))
        | (go_at_call 9; (with_reducible refine (hV.out _).mono ?_); rintro e' w6 ⟨rfl, hb6⟩; have hz6 := hidden ((twoS_low (by assumption)).trans (hb6.mono (twoS_low (by assumption)).size)); first | (have hx6 := hidden (hx5.out.below hb6); have hg6 := hidden hg5.out; obtain ⟨z0, z1, z2⟩ := hx6.out.cells; simp only at z0 z1 z2; have f0 := hx6.out.frozen 0; have f1 := hx6.out.frozen 1; have f2 := hx6.out.frozen 2) | (have hx6 : Hid (StAt w6 w5.heap.size stTyR vsZ) := hidden ((stAt_new _ stTyR vsZ).below hb6); have hg6 := hidden hb5.size; obtain ⟨z0, z1, z2⟩ := hx6.out.cells; simp only at z0 z1 z2; have f0 := hx6.out.frozen 0; have f1 := hx6.out.frozen 1; have f2 := hx6.out.frozen 2) | skip)))
    all_goals (go_wp2_with fail; go_meet; first | exact ⟨_, rfl, rfl, hx6.out.put ⟨sw, sb, sv⟩, below_put15 hz6.out hg6.out _ _ _⟩ | exact ⟨_, rfl, rfl, stAt_new _ stTyR ⟨sw, sb, sv⟩, hz6.out.alloc hz6.out.size _⟩)
  case rest =>
    obtain ⟨gx, rfl, rfl, hx, hbx⟩ := hcut
    replace hT := hidden (hT.out.below hbx)
    replace hs := hidden (hs.out.below hbx)
    replace hx := hidden hx
    replace hb1 := hidden (hb1.out.trans (hbx.mono hb1.out.size))
    clear hbx hV
    have hs0 := hidden (sixS hT.out hs.out hx.out (Below.refl wc.heap.size wc).drew)
    go_wp2_with fail
    go_region_held3 (fun W => ((W.cell? ⟨w.heap.size, 0, none⟩ = some (.int .i64 i) ∧ W.cell? ⟨w.heap.size, 1, none⟩ = some (.int .i64 s) ∧ W.cell? ⟨w.heap.size, 2, none⟩ = some (.int .i64 c) ∧ W.cell? ⟨w.heap.size, 3, none⟩ = some (.int .i64 m) ∧ W.cell? ⟨w.heap.size, 4, none⟩ = some (.int .i64 e)) ∧
        (W.cell? ⟨w.heap.size + 1, 0, none⟩ = some (.int .i64 t) ∧ W.cell? ⟨w.heap.size + 1, 1, none⟩ = some (.int .i64 o) ∧ W.cell? ⟨w.heap.size + 1, 2, none⟩ = some (.bool n) ∧ W.cell? ⟨w.heap.size + 1, 3, none⟩ = some (.int .i64 p) ∧ W.cell? ⟨w.heap.size + 1, 4, none⟩ = some (.int .i64 x) ∧ W.cell? ⟨w.heap.size + 1, 5, none⟩ = some (.int .i64 z))) ∧
        ((W.cell? ⟨gs, 0, none⟩ = some (.int .i64 sw) ∧ W.cell? ⟨gs, 1, none⟩ = some (.int .i64 sb) ∧ W.cell? ⟨gs, 2, none⟩ = some (.int .i64 sv)) ∧
        (W.cell? ⟨gx, 0, none⟩ = some (.int .i64 sw) ∧ W.cell? ⟨gx, 1, none⟩ = some (.int .i64 sb) ∧ W.cell? ⟨gx, 2, none⟩ = some (.int .i64 sv))) ∧ Below wc.heap.size wc W)
      ((first | exact hs0.out | assumption | exact sixS hT.out hs.out hx.out ((sixS_low (by assumption)).trans (hb5.mono (sixS_low (by assumption)).size))))
      ((first
        | (go_at_call 11; (with_reducible refine (hI.out _ (hb1.out.trans ((sixS_low (by assumption)).mono hb1.out.size))).mono ?_); rintro e' w5 ⟨rfl, hb5⟩)
        | (go_at_call 12; (with_reducible refine (hC.out _).mono ?_); rintro e' w5 ⟨rfl, hb5⟩)
        | (go_at_call 10; (with_reducible refine (hO.out _).mono ?_); rintro e' w5 ⟨rfl, hb5⟩)
        | (go_at_call 13; (with_reducible refine (hRC.out _).mono ?_); rintro e' w5 ⟨rfl, hb5⟩)))
    rename_i hh
    have hend := hidden (hb1.out.trans ((sixS_low hh).mono hb1.out.size))
    clear hh hs0
    go_wp2
    go_ret
    exact ⟨rfl, hend.out⟩
end Go.Proofs.YtphpmngaljldgaaDoor
