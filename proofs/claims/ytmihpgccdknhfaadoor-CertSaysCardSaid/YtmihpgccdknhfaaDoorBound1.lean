/-
  rest; cheapest.
  cheapest.
  Least, Can.
-/
import Derived.Test.YtmihpgccdknhfaaDoorBoundMath
import Derived.Test.YtmihpgccdknhfaaDoorLots1
import Derived.Test.YtmihpgccdknhfaaDoorFix
import Derived.Test.YtmihpgccdknhfaaDoorBase
namespace Go.Proofs.YtmihpgccdknhfaaDoor
open Go.RowKit
set_option linter.unusedVariables false

def RestAt (L : List Lt) (k : Nat) (w : World) (e : Ending) (w' : World) : Prop := ∃ v, e = .returned (.tuple #[v, .bool true]) ∧ Row ltV 4 w' v (L.drop k) ∧ Below w.heap.size w w'
set_option maxRecDepth 100000 in
set_option maxHeartbeats 3200000 in
/-- of a problem that may be, from a place that there is. -/
theorem rest_yes (A : Nat → Addr) (lv cv : Value) (L : List Lt) (C : List Int) (n : Int) (k : Nat) (w : World) (h : PbR w lv cv L C) (hE : ErrsOn [2, 4] w A) (hok : OkP L C n) (hk : k ≤ L.length) :
    Calls Tryd.prog 40 #[pbA lv cv n, .int .i64 (k : Int)] w (RestAt L k w) := by
  have hb0 := below_pb w pbTy lv cv n
  have hV := ltValid_any A lv cv L C n _ (h.below hb0 (Nat.le_refl _)) (hE.below hb0 (Nat.le_refl _))
  rw [pbC_ok hok, errOf_fine] at hV
  replace hV := hidden hV
  have hpb := pbAt_new w pbTy lv cv n
  have hp := hidden (fun W (hW : Below (w.alloc (pbO pbTy lv cv n)).heap.size (w.alloc (pbO pbTy lv cv n)) W) => (hpb.below hW (Nat.le_refl _)).cells)
  obtain ⟨la, lc, rfl⟩ := row_slice h.lots
  have hb := hidden hb0
  have hlen := h.len.1
  obtain ⟨_, hcap, hmax, _⟩ := row_cap h.lots
  obtain ⟨b, o, rfl, _⟩ := rowLt_at h.lots 0 (by have := hok.1.1.1; omega)
  have hkI : (k : Int) ≤ (L.length : Int) := by omega
  have hkc : (k : Int) ≤ (lc : Int) := by omega
  have hcI : (lc : Int) ≤ 9223372036854775807 := by unfold maxLen at hmax; omega
  have hways : (lc = k ∧ ∀ W, Below w.heap.size w W → Row ltV 4 W (.slice (some ⟨b, o, none⟩) (L.length - k) 0) (L.drop k)) ∨ (¬ lc = k ∧ ∀ W, Below w.heap.size w W → Row ltV 4 W (.slice (some ⟨b, o + k * 4, none⟩) (L.length - k) (lc - k)) (L.drop k)) := by
    by_cases hc1 : lc = k
    · refine .inl ⟨hc1, fun W hW => ?_⟩
      have := (row_from ltV_len (h.lots.below ltV_len hW (Nat.le_refl _)) hk).1 hc1
      rwa [show lc - k = 0 by omega] at this
    · refine .inr ⟨hc1, fun W hW => ?_⟩
      have := (row_from ltV_len (h.lots.below ltV_len hW (Nat.le_refl _)) hk).2 _ rfl
      rwa [Addr.add_lit] at this
  clear h hE hok hb0 hpb
  unfold RestAt
  rcases hways with ⟨hc1, hr⟩ | ⟨hc1, hr⟩
  · obtain rfl : lc = L.length := by omega
    obtain rfl : k = L.length := by omega
    replace hr := hidden hr
    go_enter Tryd.func40, Tryd.ntmps40
    go_wp2_with (go_at_call 17; (with_reducible refine hV.out.mono ?_); rintro e w1 ⟨rfl, hb1⟩; have hp2 := hp.out _ hb1; obtain ⟨c0, c1, c2⟩ := hp2; have hb3 := hidden (hb.out.trans (hb1.mono hb.out.size)))
    go_ret2
    exact ⟨_, rfl, by simpa using hr.out _ hb3.out, hb3.out⟩
  · replace hr := hidden hr
    go_enter Tryd.func40, Tryd.ntmps40
    go_wp2_with (go_at_call 17; (with_reducible refine hV.out.mono ?_); rintro e w1 ⟨rfl, hb1⟩; have hp2 := hp.out _ hb1; obtain ⟨c0, c1, c2⟩ := hp2; have hb3 := hidden (hb.out.trans (hb1.mono hb.out.size)))
    go_ret2
    exact ⟨_, rfl, by simpa using hr.out _ hb3.out, hb3.out⟩
end Go.Proofs.YtmihpgccdknhfaaDoor
namespace Go.Proofs.YtmihpgccdknhfaaDoor
open Go.RowKit
set_option linter.unusedVariables false

theorem lt_size : (Tryd.prog.info? ltTy).map (·.size) = some 4 := by kernel_rfl
theorem lt_end {a : Act} {w : World} {fn : Func} {R : Ending → World → Prop} {p u : Tmp} {g : Nat} {x : Lt} {vb : Value}
    (h : fn.results = #[.cell p ltTy, .tmp u]) (hd : a.defers = []) (hp : a.tmps.getD p undef = .pointer (some ⟨g, 0, none⟩)) (hb : a.tmps.getD u undef = vb) (hg : w.heap[g]? = some (ltO x))
    (hR : R (.returned (.tuple #[ltA x, vb])) w) : bodyPost Tryd.prog fn R .ret a w := by
  subst hb
  exact bodyPost_ret (results_cell2 h _ _ _ _ _ _ _ hp hg Tryd.underlying55 rfl lt_size) hd hR
/-- a lot's cells in its block, and that it can be written. -/
theorem lt_row {w : World} {g : Nat} {y : Lt} (h : w.heap[g]? = some (ltO y)) : LotAt w g 0 y ∧ (w.frozen? ⟨g, 0, none⟩ = false ∧ w.frozen? ⟨g, 1, none⟩ = false ∧ w.frozen? ⟨g, 2, none⟩ = false ∧ w.frozen? ⟨g, 3, none⟩ = false) := by
  refine ⟨⟨?_, ?_, ?_, ?_⟩, ?_, ?_, ?_, ?_⟩
  · rw [cell_of_row _ _ _ _ _ _ h]; rfl
  · rw [cell_of_row _ _ _ _ _ _ h]; rfl
  · rw [cell_of_row _ _ _ _ _ _ h]; rfl
  · rw [cell_of_row _ _ _ _ _ _ h]; rfl
  · simp [World.frozen?, h]
  · simp [World.frozen?, h]
  · simp [World.frozen?, h]
  · simp [World.frozen?, h]
abbrev ltPut (w : World) (g : Nat) (x : Lt) : World := (((w.setCell ⟨g, 0, none⟩ (.int .i64 x.u)).setCell ⟨g, 1, none⟩ (.int .i64 x.v)).setCell ⟨g, 2, none⟩ (.int .i64 x.c)).setCell ⟨g, 3, none⟩ (.int .i64 x.g)
theorem lt_put {w : World} {g : Nat} {y : Lt} (h : w.heap[g]? = some (ltO y)) (x : Lt) : (ltPut w g x).heap[g]? = some (ltO x) := by
  show ((((w.setCell ⟨g, 0, none⟩ (.int .i64 x.u)).setCell ⟨g, 1, none⟩ (.int .i64 x.v)).setCell ⟨g, 2, none⟩ (.int .i64 x.c)).setCell ⟨g, 3, none⟩ (.int .i64 x.g)).heap[g]? = _
  rw [heap_setCell_row (heap_setCell_row (heap_setCell_row (heap_setCell_row h _) _) _) _]
  rfl
theorem lt_put_trd (w : World) (g : Nat) (x : Lt) : Trd (· = g) w (ltPut w g x) := (((Trd.setCell (S := (· = g)) w ⟨g, 0, none⟩ _ rfl).trans (Trd.setCell _ ⟨g, 1, none⟩ _ rfl)).trans (Trd.setCell _ ⟨g, 2, none⟩ _ rfl)).trans (Trd.setCell _ ⟨g, 3, none⟩ _ rfl)
theorem lt_put_other {w : World} {g k : Nat} {o : Obj} (h : w.heap[k]? = some o) (hk : k ≠ g) (x : Lt) : (ltPut w g x).heap[k]? = some o := ((lt_put_trd w g x).block k (Array.getElem?_eq_some_iff.1 h).1 hk).trans h
theorem lt_put_below {w W : World} {B g : Nat} (h : Below B w W) (hg : B ≤ g) (x : Lt) : Below B w (ltPut W g x) := (((h.setCell hg _).setCell hg _).setCell hg _).setCell hg _
/-- both lots of cheapest: its answer's, its best's. -/
structure CheapAt (w0 : World) (B : Nat) (x : Lt) (w : World) : Prop where
  zero : w.heap[B]? = some (ltO ltZ)
  best : w.heap[B + 1]? = some (ltO x)
  below : Below B w0 w
theorem CheapAt.next {w0 w w' : World} {B : Nat} {x : Lt} (h : CheapAt w0 B x w) (hb : Below w.heap.size w w') (hB : B ≤ w.heap.size) : CheapAt w0 B x w' :=
  ⟨(hb.block _ (Array.getElem?_eq_some_iff.1 h.zero).1).trans h.zero, (hb.block _ (Array.getElem?_eq_some_iff.1 h.best).1).trans h.best, h.below.trans (hb.mono hB)⟩
theorem CheapAt.size {w0 w : World} {B : Nat} {x : Lt} (h : CheapAt w0 B x w) : B + 1 < w.heap.size := (Array.getElem?_eq_some_iff.1 h.best).1
theorem CheapAt.put {w0 w : World} {B : Nat} {x : Lt} (h : CheapAt w0 B x w) (y : Lt) : CheapAt w0 B y (ltPut w (B + 1) y) :=
  ⟨lt_put_other h.zero (by omega) y, lt_put h.best y, lt_put_below h.below (by omega) y⟩
def CheapRel (l : List Lt) (w0 : World) (i : Value) (w : World) : Prop := ∃ k : Nat, k ≤ l.length ∧ i = .int .i64 (k : Int) ∧ CheapAt w0 w0.heap.size (chT l k) w
set_option maxRecDepth 100000 in
set_option maxHeartbeats 6400000 in
theorem cheapest_any19 (w : World) (v : Value) (l : List Lt) (hr : Row ltV 4 w v l) (hbig : ∀ x ∈ l, ltBig x) :
    Calls Tryd.prog 41 #[v] w fun e w' => e = .returned (.tuple #[ltA (chT l l.length), .bool (!((chT l l.length).v == 0))]) ∧ Below w.heap.size w w' := by
  obtain ⟨a1, c1, rfl⟩ := row_slice hr
  have hx1 := hidden (fun k hk W (h2 : Below w.heap.size w W) => rowLt_at (hr.below ltV_len h2 (Nat.le_refl _)) k hk)
  have hB1 := hidden (fun k hk => chT_big l hbig k hk)
  have hX1 := hidden (fun k (hk : k < l.length) => show ltBig (l.getD k ltZ) from by rw [List.getD_eq_getElem?_getD, List.getElem?_eq_getElem hk]; exact hbig _ (List.getElem_mem hk))
  have hlm : (l.length : Int) ≤ 9223372036854775807 := by
    obtain ⟨_, hcap, hmax, _⟩ := row_cap hr
    unfold maxLen at hmax; omega
  have h0 : CheapAt w w.heap.size (chT l 0) ((w.alloc (ltO ltZ)).alloc (ltO ltZ)) := by
    refine ⟨?_, ?_, ?_⟩
    · exact ((below_lt (w.alloc (ltO ltZ)) ltZ).block _ (by simp)).trans (heap_alloc_new w _)
    · have := heap_alloc_new (w.alloc (ltO ltZ)) (ltO ltZ)
      rwa [show (w.alloc (ltO ltZ)).heap.size = w.heap.size + 1 by simp] at this
    · exact (below_lt w ltZ).trans ((below_lt (w.alloc (ltO ltZ)) ltZ).mono (by simp))
  replace h0 := hidden h0
  clear hr hbig
  go_enter Tryd.func41, Tryd.ntmps41
  go_wp2_with fail
  go_loopw [9] (fun i wr => CheapRel l w i wr) (fun i _ => l.length - (RowKit.intOf i).toNat)
  case atStart => exact ⟨0, Nat.zero_le _, rfl, h0.out⟩
  case round =>
    clear h0
    obtain ⟨k, hk, rfl, hC⟩ := hrel
    by_cases hlt : k < l.length
    · obtain ⟨b, o, rfl, q0, q1, q2, q3⟩ := hx1.out k hlt _ hC.below
      have hlI : (k : Int) < (l.length : Int) := by omega
      have hbb := hB1.out k (by omega)
      have hbx := hX1.out k hlt
      have hN := show chT l (k + 1) = chS (chT l k) (l.getD k ltZ) from rfl
      have hw := chS_ways (chT l k) (l.getD k ltZ)
      rw [← hN] at hw
      clear hN hx1 hB1 hX1
      have hC1 := hC.next (below_lt wr (l.getD k ltZ)) (Nat.le_of_lt (Nat.lt_of_succ_lt hC.size))
      generalize hre : chT l (k + 1) = r at *
      replace hre := hidden hre
      generalize chT l k = y at *
      generalize l.getD k ltZ = x at *
      have hCm := hidden (show Calls Tryd.prog 59 #[.int .i64 x.c, .int .i64 y.v, .int .i64 y.c, .int .i64 x.v] (wr.alloc (ltO x)) fun e w' => e = .returned (.int .i64 (cmpv (x.c * y.v) (y.c * x.v))) ∧ Below (wr.alloc (ltO x)).heap.size (wr.alloc (ltO x)) w' from fixCmp_any x.c y.v y.c x.v (wr.alloc (ltO x)) (by have := hbx.2.2.1; omega) (by have := hbx.2.2.1; omega) (by have := hbb.2.1; omega) (by have := hbb.2.1; omega) (by have := hbb.2.2.1; omega) (by have := hbb.2.2.1; omega) (by have := hbx.2.1; omega) (by have := hbx.2.1; omega))
      have hcl : x.c * y.v < y.c * x.v → cmpv (x.c * y.v) (y.c * x.v) = -1 := fun h => cmpv_lt h
      have hcg : ¬ x.c * y.v < y.c * x.v → 0 ≤ cmpv (x.c * y.v) (y.c * x.v) := fun h => by unfold cmpv; rw [if_neg h]; split <;> omega
      replace hw : (x.v = 0 ∧ r = y) ∨ (¬ x.v = 0 ∧ x.u = 0 ∧ r = y) ∨ (¬ x.v = 0 ∧ ¬ x.u = 0 ∧ y.v = 0 ∧ r = x) ∨ (¬ x.v = 0 ∧ ¬ x.u = 0 ∧ ¬ y.v = 0 ∧ decide (cmpv (x.c * y.v) (y.c * x.v) < 0) = true ∧ r = x) ∨ (¬ x.v = 0 ∧ ¬ x.u = 0 ∧ ¬ y.v = 0 ∧ decide (cmpv (x.c * y.v) (y.c * x.v) < 0) = false ∧ r = y) := by
        rcases hw with h | h | h | ⟨h1, h2, h3, h4, e⟩ | ⟨h1, h2, h3, h4, e⟩
        · exact .inl h
        · exact .inr (.inl h)
        · exact .inr (.inr (.inl h))
        · exact .inr (.inr (.inr (.inl ⟨h1, h2, h3, decide_eq_true (by have := hcl h4; omega), e⟩)))
        · exact .inr (.inr (.inr (.inr ⟨h1, h2, h3, decide_eq_false (by have := hcg h4; omega), e⟩)))
      clear hcl hcg hbb hbx
      generalize cmpv (x.c * y.v) (y.c * x.v) = z at *
      obtain ⟨cx0, cx1, cx2, cx3⟩ := (lt_row (heap_alloc_new wr (ltO x))).1
      obtain ⟨cy0, cy1, cy2, cy3⟩ := (lt_row hC1.best).1
      obtain ⟨⟨cz0, cz1, cz2, cz3⟩, f0, f1, f2, f3⟩ := lt_row hC.best
      have hX6 := hidden (heap_alloc_new wr (ltO x))
      have hsz := hC.size
      replace hC1 := hidden hC1
      have hC0 := hidden (fun z => (hC.put z).next (below_lt _ x) (by have := (hC.put z).size; omega))
      clear hC
      rcases hw with ⟨h1, e⟩ | ⟨h1, h2, e⟩ | ⟨h1, h2, h3, e⟩ | ⟨h1, h2, h3, h4, e⟩ | ⟨h1, h2, h3, h4, e⟩
      · subst e
        obtain ⟨xu, xv, xc, xg⟩ := x
        simp only at h1 q0 q1 q2 q3 cx0 cx1 cx2 cx3
        subst h1
        clear hCm cy0 cy1 cy2 cy3 cz0 cz1 cz2 cz3 f0 f1 f2 f3 hX6
        go_wp2
        go_roundw
        case rel => exact ⟨k + 1, hlt, by go_num, by rw [hre.out]; exact hC1.out⟩
        case measure => simp [RowKit.intOf]; omega
      · subst e
        obtain ⟨xu, xv, xc, xg⟩ := x
        simp only at h1 h2 q0 q1 q2 q3 cx0 cx1 cx2 cx3
        subst h2
        have n1 : (xv == 0) = false := by rw [beq_eq_false_iff_ne]; exact h1
        clear hCm cy0 cy1 cy2 cy3 cz0 cz1 cz2 cz3 f0 f1 f2 f3 hX6
        go_wp2
        go_roundw
        case rel => exact ⟨k + 1, hlt, by go_num, by rw [hre.out]; exact hC1.out⟩
        case measure => simp [RowKit.intOf]; omega
      · subst e
        have hP := hidden (hC0.out r)
        clear hC0 hC1
        obtain ⟨xu, xv, xc, xg⟩ := r
        obtain ⟨yu, yv, yc, yg⟩ := y
        simp only at h1 h2 h3 q0 q1 q2 q3 cx0 cx1 cx2 cx3 cy0 cy1 cy2 cy3 cz0 cz1 cz2 cz3 hP
        subst h3
        have n1 : (xv == 0) = false := by rw [beq_eq_false_iff_ne]; exact h1
        have n2 : (xu == 0) = false := by rw [beq_eq_false_iff_ne]; exact h2
        clear hCm hX6
        go_wp2
        go_roundw
        case rel => exact ⟨k + 1, hlt, by go_num, by rw [hre.out]; exact hP.out⟩
        case measure => simp [RowKit.intOf]; omega
      · subst e
        have n1 : (r.v == 0) = false := by rw [beq_eq_false_iff_ne]; exact h1
        have n2 : (r.u == 0) = false := by rw [beq_eq_false_iff_ne]; exact h2
        have n3 : (y.v == 0) = false := by rw [beq_eq_false_iff_ne]; exact h3
        have hD := hidden (fun W hb => hC1.out.next (w' := W) hb (by simp; omega))
        have hXD := hidden (fun W (hb : Below (wr.alloc (ltO r)).heap.size (wr.alloc (ltO r)) W) => lt_row ((hb.block _ (by simp)).trans hX6.out))
        have hP := hidden (fun W hb => (hD.out W hb).put r)
        have hF := hidden (fun W hb => (lt_row (hD.out W hb).best))
        obtain ⟨xu, xv, xc, xg⟩ := r
        obtain ⟨yu, yv, yc, yg⟩ := y
        simp only at h1 h2 h3 h4 n1 n2 n3 q0 q1 q2 q3 cx0 cx1 cx2 cx3 cy0 cy1 cy2 cy3 hP hCm hXD hF
        clear hX6 hC1 cz0 cz1 cz2 cz3 f0 f1 f2 f3
        go_wp2_with fail
        (with_reducible refine hCm.out.mono ?_)
        rintro e w5 ⟨rfl, hb5⟩
        obtain ⟨⟨cx0, cx1, cx2, cx3⟩, _⟩ := hXD.out _ hb5
        obtain ⟨⟨cy0, cy1, cy2, cy3⟩, f0, f1, f2, f3⟩ := hF.out _ hb5
        replace hP := hidden (hP.out _ hb5)
        clear hCm hXD hF hD hb5
        go_wp2
        go_roundw
        case rel => exact ⟨k + 1, hlt, by go_num, by rw [hre.out]; exact hP.out⟩
        case measure => simp [RowKit.intOf]; omega
      · subst e
        have n1 : (x.v == 0) = false := by rw [beq_eq_false_iff_ne]; exact h1
        have n2 : (x.u == 0) = false := by rw [beq_eq_false_iff_ne]; exact h2
        have n3 : (r.v == 0) = false := by rw [beq_eq_false_iff_ne]; exact h3
        have hD := hidden (fun W hb => hC1.out.next (w' := W) hb (by simp; omega))
        obtain ⟨xu, xv, xc, xg⟩ := x
        have hD' := hidden (fun W hb => hD.out W hb)
        obtain ⟨yu, yv, yc, yg⟩ := r
        simp only at h1 h2 h3 h4 n1 n2 n3 q0 q1 q2 q3 cx0 cx1 cx2 cx3 cy0 cy1 cy2 cy3 hCm
        clear hX6 hC1 cz0 cz1 cz2 cz3 f0 f1 f2 f3 hD
        go_wp2_with fail
        (with_reducible refine hCm.out.mono ?_)
        rintro e w5 ⟨rfl, hb5⟩
        replace hD := hidden (hD'.out _ hb5)
        clear hCm hD' hb5
        go_wp2
        go_roundw
        case rel => exact ⟨k + 1, hlt, by go_num, by rw [hre.out]; exact hD.out⟩
        case measure => simp [RowKit.intOf]; omega
    · obtain rfl : k = l.length := by omega
      clear hx1 hB1 hX1
      generalize hye : chT l l.length = y at *
      replace hye := hidden hye
      obtain ⟨⟨z0, z1, z2, z3⟩, f0, f1, f2, f3⟩ := lt_row hC.zero
      obtain ⟨⟨cy0, cy1, cy2, cy3⟩, _⟩ := lt_row hC.best
      have hR := hidden (lt_put hC.zero y)
      have hB := hidden (lt_put_below hC.below (Nat.le_refl _) y)
      clear hC
      obtain ⟨yu, yv, yc, yg⟩ := y
      simp only at cy0 cy1 cy2 cy3 hR hB
      go_wp2
      go_region
      all_goals
        go_wp2
        refine lt_end (x := ⟨yu, yv, yc, yg⟩) (g := w.heap.size) rfl rfl rfl rfl ?_ ⟨by rw [hye.out]; rfl, ?_⟩
        · exact hR.out
        · exact hB.out.drew
end Go.Proofs.YtmihpgccdknhfaaDoor
namespace Go.Proofs.YtmihpgccdknhfaaDoor
open Go.RowKit
set_option linter.unusedVariables false

/-- what is told of the least; whether. -/
def lsV (L : List Lt) (k : Nat) (left : Int) : Int := if left ≤ 0 then 0 else divAns left (chL L k).c (chL L k).v true
def lsB (L : List Lt) (k : Nat) (left : Int) : Bool := if left ≤ 0 then true else divOk left (chL L k).c (chL L k).v true
theorem divOk_zero (a b : Int) (up : Bool) : divOk a b 0 up = false := rfl
theorem divAns_zero (a b : Int) (up : Bool) : divAns a b 0 up = 0 := rfl
set_option maxRecDepth 100000 in
set_option maxHeartbeats 3200000 in
theorem least_yes (A : Nat → Addr) (lv cv : Value) (L : List Lt) (C : List Int) (n : Int) (k : Nat) (left : Int) (w : World) (h : PbR w lv cv L C) (hE : ErrsOn [2, 4] w A) (hok : OkP L C n) (hk : k ≤ L.length) (h0 : -9223372036854775808 ≤ left) (h1 : left ≤ 9223372036854775807) :
    Calls Tryd.prog 20 #[pbA lv cv n, .int .i64 (k : Int), .int .i64 left] w fun e w' => e = .returned (.tuple #[.int .i64 (lsV L k left), .bool (lsB L k left)]) ∧ Below w.heap.size w w' := by
  have hb0 := below_pb w pbTy lv cv n
  have hR := rest_yes A lv cv L C n k _ (h.below hb0 (Nat.le_refl _)) (hE.below hb0 (Nat.le_refl _)) hok hk
  unfold RestAt at hR
  replace hR := hidden hR
  obtain ⟨c0, c1, c2⟩ := (pbAt_new w pbTy lv cv n).cells
  have hb := hidden hb0
  have hbig : ∀ x ∈ L.drop k, ltBig x := fun x hx => h.big x (List.mem_of_mem_drop hx)
  have hC := hidden (fun W v hr => cheapest_any19 W v (L.drop k) hr hbig)
  have hyb := chT_big (L.drop k) hbig _ (Nat.le_refl _)
  have hD := hidden (fun W => div_any left (chL L k).c (chL L k).v true W h0 h1 hyb.2.2.1.1 hyb.2.2.1.2 hyb.2.1.2)
  have e1 : chT (L.drop k) (L.drop k).length = chL L k := rfl
  rw [e1] at hC
  clear h hE hok hb0 hbig hyb e1
  unfold lsV lsB
  by_cases hl : left ≤ 0
  · rw [if_pos hl, if_pos hl]
    go_enter Tryd.func20, Tryd.ntmps20
    go_wp2_with fail
    (with_reducible refine hR.out.mono ?_)
    rintro r w1 ⟨v, rfl, hrow, hb1⟩
    have hb2 := hidden (hb.out.trans (hb1.mono hb.out.size))
    clear hR hrow hb1 hC hD
    go_wp2
    go_ret2
    exact ⟨rfl, hb2.out⟩
  · rw [if_neg hl, if_neg hl]
    generalize chL L k = y at *
    by_cases hy : y.v = 0
    · obtain ⟨yu, yv, yc, yg⟩ := y
      simp only at hy hC hD
      subst hy
      rw [divOk_zero, divAns_zero]
      clear hD
      go_enter Tryd.func20, Tryd.ntmps20
      go_wp2_with fail
      (with_reducible refine hR.out.mono ?_)
      rintro r w1 ⟨v, rfl, hrow, hb1⟩
      have hb2 := hidden (hb.out.trans (hb1.mono hb.out.size))
      have hC1 := hidden (hC.out w1 v hrow)
      clear hR hrow hb1 hC
      go_wp2_with fail
      (with_reducible refine hC1.out.mono ?_)
      rintro r w2 ⟨rfl, hb3⟩
      have hb4 := hidden ((hb2.out.trans (hb3.mono hb2.out.size)).trans ((below_lt w2 ⟨yu, 0, yc, yg⟩).mono (hb2.out.trans (hb3.mono hb2.out.size)).size))
      clear hC1 hb3 hb2
      go_wp2
      go_ret2
      exact ⟨rfl, hb4.out⟩
    · have n1 : (!(y.v == 0)) = true := by simp [hy]
      rw [n1] at hC
      obtain ⟨yu, yv, yc, yg⟩ := y
      simp only at hy hC hD n1
      simp only
      generalize divOk left yc yv true = db at *
      generalize divAns left yc yv true = dv at *
      clear n1
      go_enter Tryd.func20, Tryd.ntmps20
      go_wp2_with fail
      (with_reducible refine hR.out.mono ?_)
      rintro r w1 ⟨v, rfl, hrow, hb1⟩
      have hb2 := hidden (hb.out.trans (hb1.mono hb.out.size))
      have hC1 := hidden (hC.out w1 v hrow)
      clear hR hrow hb1 hC
      go_wp2_with fail
      (with_reducible refine hC1.out.mono ?_)
      rintro r w2 ⟨rfl, hb3⟩
      have hb4 := hidden ((hb2.out.trans (hb3.mono hb2.out.size)).trans ((below_lt w2 ⟨yu, yv, yc, yg⟩).mono (hb2.out.trans (hb3.mono hb2.out.size)).size))
      obtain ⟨⟨cx0, cx1, cx2, cx3⟩, _⟩ := lt_row (heap_alloc_new w2 (ltO ⟨yu, yv, yc, yg⟩))
      clear hC1 hb3 hb2
      go_wp2_with fail
      (with_reducible refine (hD.out _).mono ?_)
      rintro r w3 ⟨rfl, m, rfl⟩
      clear hD
      go_wp2
      go_ret2
      exact ⟨rfl, below_drewN hb4.out⟩
/-- what all units from one on are worth, without caps. -/
def caF (L : List Lt) (k i : Nat) : Int := (L.getD (k + i) ltZ).u * (L.getD (k + i) ltZ).v
def caV (L : List Lt) (k : Nat) : Int := sumF (caF L k) (L.length - k)
theorem caF_bd {L : List Lt} {C : List Int} {n : Int} (h : OkP L C n) {k i : Nat} (hi : k + i < L.length) : 0 ≤ caF L k i ∧ caF L k i ≤ 1000000000000 := by
  have h1 := h.lot hi
  unfold ltOk at h1
  have := prod_bd (a := (L.getD (k + i) ltZ).u) (A := 1000) (b := (L.getD (k + i) ltZ).v) (B := 1000000000) (by omega) (by omega) (by omega) (by omega)
  unfold caF
  omega
theorem caS_bd {L : List Lt} {C : List Int} {n : Int} (h : OkP L C n) {k j : Nat} (hj : k + j ≤ L.length) : 0 ≤ sumF (caF L k) j ∧ sumF (caF L k) j ≤ 8000000000000 := by
  have := sumF_bd (f := caF L k) (M := 1000000000000) (k := j) (fun i hi => caF_bd h (by omega))
  have hL := h.1.1.2
  omega
def CanRel (L : List Lt) (k m : Nat) (w0 : World) (s i : Value) (w : World) : Prop := ∃ j : Nat, j ≤ m ∧ i = .int .i64 (j : Int) ∧ s = .int .i64 (sumF (caF L k) j) ∧ Below w0.heap.size w0 w
end Go.Proofs.YtmihpgccdknhfaaDoor
