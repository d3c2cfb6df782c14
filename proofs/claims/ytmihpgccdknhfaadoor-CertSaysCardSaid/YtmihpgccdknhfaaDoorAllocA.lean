import Derived.Test.YtmihpgccdknhfaaDoorLots6
import Derived.Test.YtmihpgccdknhfaaDoorBound1
import Derived.Test.YtmihpgccdknhfaaDoorLotsLaw
import Derived.Test.YtmihpgccdknhfaaDoorAllocMath
import Derived.Test.YtmihpgccdknhfaaDoorFix
import Derived.Test.YtmihpgccdknhfaaDoorBase
import Derived.Deep.RegionHeld3
import Derived.Deep.RegionLaw
import Derived.Lib.SliceRun
import Derived.Deep.DeepCutAuto

/-
  A state of the search in a block; useful, with.
-/
namespace Go.Proofs.YtmihpgccdknhfaaDoor
open Go.RowKit
set_option linter.unusedVariables false

abbrev sgTy : TypeId := 75
abbrev sgN (s : Sg) : List Int := [s.c, s.l, s.r.getD 0 0, s.r.getD 1 0, s.r.getD 2 0, s.r.getD 3 0, s.r.getD 4 0, s.r.getD 5 0, s.r.getD 6 0, s.r.getD 7 0]
abbrev tenA (y0 y1 y2 y3 y4 y5 y6 y7 y8 y9 : Int) : Value := .agg #[.int .i64 y0, .int .i64 y1, .int .i64 y2, .int .i64 y3, .int .i64 y4, .int .i64 y5, .int .i64 y6, .int .i64 y7, .int .i64 y8, .int .i64 y9]
abbrev sgA (s : Sg) : Value := tenA s.c s.l (s.r.getD 0 0) (s.r.getD 1 0) (s.r.getD 2 0) (s.r.getD 3 0) (s.r.getD 4 0) (s.r.getD 5 0) (s.r.getD 6 0) (s.r.getD 7 0)
abbrev tenO (y0 y1 y2 y3 y4 y5 y6 y7 y8 y9 : Int) : Obj := .cells #[.int .i64 y0, .int .i64 y1, .int .i64 y2, .int .i64 y3, .int .i64 y4, .int .i64 y5, .int .i64 y6, .int .i64 y7, .int .i64 y8, .int .i64 y9] sgTy
abbrev sgO (s : Sg) : Obj := tenO s.c s.l (s.r.getD 0 0) (s.r.getD 1 0) (s.r.getD 2 0) (s.r.getD 3 0) (s.r.getD 4 0) (s.r.getD 5 0) (s.r.getD 6 0) (s.r.getD 7 0)
/-- a state in a block. -/
abbrev SgAt (w : World) (b : Nat) (s : Sg) : Prop := NumAt sgTy w b (sgN s)
theorem below_sg (w : World) (s : Sg) : Below w.heap.size w (w.alloc (sgO s)) := (Below.refl _ w).alloc (Nat.le_refl _) _
theorem sgAt_new (w : World) (s : Sg) : SgAt (w.alloc (sgO s)) w.heap.size s := heap_alloc_new w (sgO s)
theorem ten_at (r : List Int) {g : Nat} (c l : Int) (h : g < 8) : (sgN ⟨c, l, r⟩).getD (2 + g) 0 = r.getD g 0 := by
  match g, h with
  | 0, _ | 1, _ | 2, _ | 3, _ | 4, _ | 5, _ | 6, _ | 7, _ => rfl
theorem SgAt.room {w : World} {b : Nat} {s : Sg} (h : SgAt w b s) {g : Nat} (hg : g < 8) : w.cell? ⟨b, 2 + g, none⟩ = some (.int .i64 (s.r.getD g 0)) := by
  rw [h.cell (i := 2 + g) (by simp; omega), ten_at _ _ _ hg]
theorem SgAt.two {w : World} {b : Nat} {s : Sg} (h : SgAt w b s) : w.cell? ⟨b, 0, none⟩ = some (.int .i64 s.c) ∧ w.cell? ⟨b, 1, none⟩ = some (.int .i64 s.l) := ⟨h.cell (i := 0) (by simp), h.cell (i := 1) (by simp)⟩
theorem SgAt.below {w w' : World} {b : Nat} {s : Sg} (h : SgAt w b s) (hb : Below w.heap.size w w') : SgAt w' b s := NumAt.below h hb (Nat.le_refl _)
/-- numbers within their bounds: j lots were chosen of. -/
structure BdS (j : Nat) (s : Sg) : Prop where
  ok : okS s
  c0 : 0 ≤ s.c
  c1 : s.c ≤ (j : Int) * 1000000000000
  l0 : -((j : Int) * 1000000000000) ≤ s.l
  l1 : s.l ≤ 1000000000000
  r1 : ∀ g, g < 8 → s.r.getD g 0 ≤ 1000000000000
/-- a lot within its bounds that adds anything. -/
def bgL (x : Lt) : Prop := (0 < x.u ∧ x.u ≤ 1000) ∧ (0 < x.v ∧ x.v ≤ 1000000000) ∧ (0 ≤ x.c ∧ x.c ≤ 1000000000) ∧ (0 ≤ x.g ∧ x.g < 8)
theorem bg_go {x : Lt} (h : bgL x) : goL x := ⟨h.2.1.1, h.1.1, h.2.2.1.1, h.2.2.2.1, h.2.2.2.2⟩
theorem BdS.room {j : Nat} {s : Sg} (h : BdS j s) {x : Lt} (hx : bgL x) : 0 ≤ rmS s x ∧ rmS s x ≤ 1000000000000 := ⟨rm_ok h.ok (bg_go hx), h.r1 _ (by have := hx.2.2.2; omega)⟩
theorem min_is (a b : Int) : ∃ P, min a b = P ∧ P ≤ a ∧ P ≤ b ∧ (P = a ∨ P = b) := ⟨_, rfl, by omega⟩
theorem eight (r : List Int) (h : r.length = 8) : ∃ a b c d e f g i : Int, r = [a, b, c, d, e, f, g, i] := by
  match r, h with
  | [a, b, c, d, e, f, g, i], _ => exact ⟨a, b, c, d, e, f, g, i, rfl⟩
theorem idx8 (y0 y1 a b c d e f k i : Int) {g : Nat} (h : g < 8) : [Value.int .i64 y0, Value.int .i64 y1, Value.int .i64 a, Value.int .i64 b, Value.int .i64 c, Value.int .i64 d, Value.int .i64 e, Value.int .i64 f, Value.int .i64 k, Value.int .i64 i][2 + g]? = some (.int .i64 ([a, b, c, d, e, f, k, i].getD g 0)) := by
  match g, h with
  | 0, _ | 1, _ | 2, _ | 3, _ | 4, _ | 5, _ | 6, _ | 7, _ => rfl
set_option maxRecDepth 100000 in
set_option maxHeartbeats 3200000 in
theorem useful_any (s : Sg) (x : Lt) (j : Nat) (w : World) (hj : j ≤ 20) (hs : BdS j s) (hx : bgL x) (hl : 0 < s.l) :
    Calls Tryd.prog 72 #[sgA s, ltA x] w fun e w' => e = .returned (.int .i64 (usS s x)) ∧ Below w.heap.size w w' := by
  have hr := hs.room hx
  obtain ⟨g, hg⟩ : ∃ g : Nat, x.g = (g : Int) := ⟨x.g.toNat, by have := hx.2.2.2; omega⟩
  have hg8 : g < 8 := by have := hx.2.2.2; omega
  have hb := hidden ((below_sg w s).trans ((below_lt (w.alloc (sgO s)) x).mono (by simp)))
  have hl1 := hs.l1
  unfold usS
  have er : rmS s x = s.r.getD g 0 := by unfold rmS; rw [hg]; rfl
  rw [er] at hr ⊢
  obtain ⟨hx1, hx2, hx3, hx4⟩ := hx
  obtain ⟨sc, sl, sr⟩ := s
  obtain ⟨r0, r1, r2, r3, r4, r5, r6, r7, hsr⟩ := eight sr hs.ok.1
  simp only at hr hl hl1 hsr ⊢
  clear hs er
  subst hsr
  have hix := idx8 sc sl r0 r1 r2 r3 r4 r5 r6 r7 hg8
  generalize [r0, r1, r2, r3, r4, r5, r6, r7].getD g 0 = rg at *
  obtain ⟨m, hm, hma, hmb, hmc⟩ := min_is sl rg
  rw [hm]
  have hq0 : 0 ≤ (m + x.v - 1) / x.v := Int.ediv_nonneg (by omega) (by omega)
  have hq1 : (m + x.v - 1) / x.v ≤ m + x.v - 1 := Int.ediv_le_self _ (by omega)
  have htd : (m + x.v - 1).tdiv x.v = (m + x.v - 1) / x.v := Int.tdiv_eq_ediv_of_nonneg (by omega)
  have hw1 : IntKind.i64.wrap (m + x.v) = m + x.v := by rw [IntKind.wrap_i64]; omega
  have hw2 : IntKind.i64.wrap (m + x.v - 1) = m + x.v - 1 := by rw [IntKind.wrap_i64]; omega
  have hv0 : (x.v == 0) = false := by rw [beq_eq_false_iff_ne]; omega
  obtain ⟨m2, hm2, _⟩ := min_is ((m + x.v - 1) / x.v) x.u
  rw [hm2]
  generalize (m + x.v - 1) / x.v = q at *
  have hwq : IntKind.i64.wrap q = q := by rw [IntKind.wrap_i64]; omega
  have hgI : (g : Int) < 8 := by omega
  obtain ⟨xu, xv, xc, xg⟩ := x
  simp only at hg hx1 hx2 hx3 hx4 hw1 hw2 hv0 htd hm2 hq1
  subst hg
  clear hma hmb hmc hq0 hq1
  go_enter Tryd.func72, Tryd.ntmps72
  go_wp2_with fail
  go_region
  all_goals
    go_wp2
    go_ret
    exact ⟨rfl, hb.out.drew⟩
/-- a state behind a write. -/
theorem sgAt_put {w : World} {b : Nat} {s : Sg} (h : SgAt w b s) (hr : s.r.length = 8) : (∀ y, SgAt (w.setCell ⟨b, 0, none⟩ (.int .i64 y)) b ⟨y, s.l, s.r⟩) ∧ (∀ y, SgAt (w.setCell ⟨b, 1, none⟩ (.int .i64 y)) b ⟨s.c, y, s.r⟩) ∧ (∀ g, g < 8 → ∀ y, SgAt (w.setCell ⟨b, 2 + g, none⟩ (.int .i64 y)) b ⟨s.c, s.l, s.r.set g y⟩) := by
  refine ⟨fun y => NumAt.set h 0 y, fun y => NumAt.set h 1 y, fun g hg y => ?_⟩
  have := NumAt.set h (2 + g) y
  obtain ⟨c, l, r⟩ := s
  obtain ⟨r0, r1, r2, r3, r4, r5, r6, r7, rfl⟩ := eight r hr
  match g, hg with
  | 0, _ | 1, _ | 2, _ | 3, _ | 4, _ | 5, _ | 6, _ | 7, _ => exact this
theorem SgAt.ten {w : World} {b : Nat} {s : Sg} (h : SgAt w b s) : (w.cell? ⟨b, 0, none⟩ = some (.int .i64 s.c) ∧ w.cell? ⟨b, 1, none⟩ = some (.int .i64 s.l) ∧ w.cell? ⟨b, 2, none⟩ = some (.int .i64 (s.r.getD 0 0)) ∧ w.cell? ⟨b, 3, none⟩ = some (.int .i64 (s.r.getD 1 0)) ∧ w.cell? ⟨b, 4, none⟩ = some (.int .i64 (s.r.getD 2 0))) ∧
    (w.cell? ⟨b, 5, none⟩ = some (.int .i64 (s.r.getD 3 0)) ∧ w.cell? ⟨b, 6, none⟩ = some (.int .i64 (s.r.getD 4 0)) ∧ w.cell? ⟨b, 7, none⟩ = some (.int .i64 (s.r.getD 5 0)) ∧ w.cell? ⟨b, 8, none⟩ = some (.int .i64 (s.r.getD 6 0)) ∧ w.cell? ⟨b, 9, none⟩ = some (.int .i64 (s.r.getD 7 0))) :=
  ⟨⟨h.cell (i := 0) (by simp), h.cell (i := 1) (by simp), h.cell (i := 2) (by simp), h.cell (i := 3) (by simp), h.cell (i := 4) (by simp)⟩, h.cell (i := 5) (by simp), h.cell (i := 6) (by simp), h.cell (i := 7) (by simp), h.cell (i := 8) (by simp), h.cell (i := 9) (by simp)⟩
theorem sg_size : (Tryd.prog.info? sgTy).map (·.size) = some 10 := by kernel_rfl
theorem sg_end {fn : Func} {p : Tmp} {R : Ending → World → Prop} {a : Act} {w : World} {g : Nat} {s : Sg} (h : fn.results = #[.cell p sgTy]) (hd : a.defers = []) (hp : a.tmps.getD p undef = .pointer (some ⟨g, 0, none⟩)) (hg : SgAt w g s)
    (hR : R (.returned (sgA s)) w) : bodyPost Tryd.prog fn R .ret a w :=
  bodyPost_ret (results_cell_row h _ _ _ _ _ _ _ hp hg Tryd.underlying75 rfl sg_size) hd hR
set_option maxRecDepth 100000 in
set_option maxHeartbeats 12800000 in
theorem with_any (s : Sg) (x : Lt) (k : Int) (j : Nat) (w : World) (hj : j ≤ 20) (hs : BdS j s) (hx : bgL x) (hk0 : 0 ≤ k) (hk1 : k ≤ 1000) :
    Calls Tryd.prog 74 #[sgA s, ltA x, .int .i64 k] w fun e w' => e = .returned (sgA (wiS s x k)) ∧ Below w.heap.size w w' := by
  have hr := hs.room hx
  obtain ⟨g, hg⟩ : ∃ g : Nat, x.g = (g : Int) := ⟨x.g.toNat, by have := hx.2.2.2; omega⟩
  have hg8 : g < 8 := by have := hx.2.2.2; omega
  have er : rmS s x = s.r.getD g 0 := by unfold rmS; rw [hg]; rfl
  obtain ⟨hx1, hx2, hx3, hx4⟩ := hx
  have hkv := prod_bd (a := k) (A := 1000) (b := x.v) (B := 1000000000) hk0 hk1 (by omega) hx2.2
  have hkc := prod_bd (a := k) (A := 1000) (b := x.c) (B := 1000000000) hk0 hk1 hx3.1 hx3.2
  have hc0 := hs.c0
  have hc1 := hs.c1
  have hl0 := hs.l0
  have hl1 := hs.l1
  have hjI : (j : Int) ≤ 20 := by omega
  rw [er] at hr
  have hres : wiS s x k = ⟨s.c + k * x.c, s.l - min (k * x.v) (s.r.getD g 0), s.r.set g (s.r.getD g 0 - min (k * x.v) (s.r.getD g 0))⟩ := by
    unfold wiS gnS
    rw [er, hg]
    rfl
  rw [hres]
  obtain ⟨sc, sl, sr⟩ := s
  obtain ⟨r0, r1, r2, r3, r4, r5, r6, r7, hsr⟩ := eight sr hs.ok.1
  simp only at hr hc0 hc1 hl0 hl1 hsr ⊢
  clear hs hres er
  subst hsr
  have hw1 : IntKind.i64.wrap (k * x.v) = k * x.v := by rw [IntKind.wrap_i64]; omega
  have hw2 : IntKind.i64.wrap (k * x.c) = k * x.c := by rw [IntKind.wrap_i64]; omega
  obtain ⟨kv, hkve⟩ : ∃ z, k * x.v = z := ⟨_, rfl⟩
  obtain ⟨kc, hkce⟩ : ∃ z, k * x.c = z := ⟨_, rfl⟩
  rw [hkve] at hw1 hkv ⊢
  rw [hkce] at hw2 hkc ⊢
  obtain ⟨xu, xv, xc, xg⟩ := x
  simp only at hg hkve hkce
  subst hg
  have hw3 : IntKind.i64.wrap (sc + kc) = sc + kc := by rw [IntKind.wrap_i64]; omega
  obtain ⟨m, hm, hma, hmb, hmc⟩ := min_is kv ([r0, r1, r2, r3, r4, r5, r6, r7].getD g 0)
  rw [hm]
  have hw4 : IntKind.i64.wrap (sl - m) = sl - m := by rw [IntKind.wrap_i64]; omega
  have hw5 : IntKind.i64.wrap ([r0, r1, r2, r3, r4, r5, r6, r7].getD g 0 - m) = [r0, r1, r2, r3, r4, r5, r6, r7].getD g 0 - m := by rw [IntKind.wrap_i64]; omega
  clear hx1 hx2 hx3 hx4 hkv hkc hc0 hc1 hl0 hl1 hma hmb hmc hr hjI
  have hb := hidden (fun o1 o2 o3 => (below_pb3 w o1 o2 o3).drew)
  have hn := hidden (fun o1 o2 s => sgAt_new ((w.alloc o1).alloc o2) s)
  simp only [World.size_alloc] at hn
  rcases (show g = 0 ∨ g = 1 ∨ g = 2 ∨ g = 3 ∨ g = 4 ∨ g = 5 ∨ g = 6 ∨ g = 7 by omega) with rfl | rfl | rfl | rfl | rfl | rfl | rfl | rfl
  all_goals
    simp only [List.getD_cons_zero, List.getD_cons_succ, List.set_cons_zero, List.set_cons_succ] at hm hw5 ⊢
    go_enter Tryd.func74, Tryd.ntmps74
    go_wp2_with fail
    go_region
    all_goals
      go_wp2
      exact sg_end (g := w.heap.size + 1 + 1) rfl rfl rfl (hn.out _ _ ⟨_, _, [_, _, _, _, _, _, _, _]⟩) ⟨rfl, hb.out _ _ _⟩
end Go.Proofs.YtmihpgccdknhfaaDoor

/-
  least.
-/
namespace Go.Proofs.YtmihpgccdknhfaaDoor
open Go.RowKit
set_option linter.unusedVariables false

theorem divq_win {a b c u : Int} (up : Bool) (ha : 0 ≤ a) (hc : 0 < c) (hb : 0 ≤ b) (h : a ≤ u * c) : 0 ≤ divq a b c up ∧ divq a b c up ≤ u * b := by
  have hab := Int.mul_nonneg ha hb
  have hm : a * b ≤ u * b * c := by
    have := Int.mul_le_mul_of_nonneg_right h hb
    rw [show u * c * b = u * b * c by grind] at this
    exact this
  cases up
  · unfold divq
    rw [if_neg (by decide)]
    exact ⟨Int.ediv_nonneg hab (Int.le_of_lt hc), by
      have := Int.ediv_le_ediv hc hm
      rwa [Int.mul_ediv_cancel _ (by omega)] at this⟩
  · exact ⟨divq_pos hc ha hb, (divq_le hc).2 hm⟩
theorem div_fine {a b c u : Int} (up : Bool) (ha : 0 ≤ a) (hc : 0 < c) (hb : 0 ≤ b) (h : a ≤ u * c) (hub : u * b ≤ 1000000000000) : divOk a b c up = true ∧ divAns a b c up = divq a b c up := by
  have hw := divq_win up ha hc hb h
  have e : divOk a b c up = true := by
    unfold divOk in64
    rw [decide_eq_true hc, Bool.true_and]
    simp only [decide_eq_true_iff, Bool.and_eq_true]
    omega
  exact ⟨e, by unfold divAns; rw [if_pos e]⟩
theorem mulN (j : Nat) : ((j + 1 : Nat) : Int) * 1000000000000 = (j : Int) * 1000000000000 + 1000000000000 := by omega
theorem bd_set {j : Nat} {s : Sg} (h : BdS j s) {x : Lt} (hx : bgL x) {a c l : Int} (ha0 : 0 ≤ a) (ha1 : a ≤ 1000000000000) (c0 : 0 ≤ c) (c1 : c ≤ s.c + 1000000000000) (l0 : s.l - 1000000000000 ≤ l) (l1 : l ≤ s.l) : BdS (j + 1) ⟨c, l, s.r.set x.g.toNat a⟩ := by
  have e := mulN j
  have h1 := h.c1
  have h2 := h.l0
  have h3 := h.l1
  refine ⟨set_ok h.ok (bg_go hx) ha0, c0, ?_, ?_, ?_, fun g hg => ?_⟩
  · rw [e]; show c ≤ _; omega
  · rw [e]; show _ ≤ l; omega
  · show l ≤ _; omega
  · show (s.r.set x.g.toNat a).getD g 0 ≤ _
    have := hx.2.2.2
    have h8 := h.ok.1
    rw [set_at _ _ _ _ (by omega)]
    split
    · exact ha1
    · exact h.r1 g hg
theorem bd_with {j : Nat} {s : Sg} (h : BdS j s) {x : Lt} (hx : bgL x) {k : Int} (h0 : 0 ≤ k) (h1 : k ≤ x.u) : BdS (j + 1) (wiS s x k) := by
  have hr := h.room hx
  have hg := gn_bd h.ok (bg_go hx) h0
  have hkc := prod_bd (a := k) (A := 1000) (b := x.c) (B := 1000000000) h0 (by have := hx.1; omega) hx.2.2.1.1 hx.2.2.1.2
  have hc := h.c0
  exact bd_set h hx (by omega) (by omega) (by omega) (by omega) (by omega) (by omega)
theorem ln_win {j : Nat} {s : Sg} (h : BdS j s) {x : Lt} (hx : bgL x) (hl : 0 < s.l) (up : Bool) : 0 ≤ divq (lgS s x) x.c x.v up ∧ divq (lgS s x) x.c x.v up ≤ x.u * x.c ∧ x.u * x.c ≤ 1000000000000 := by
  have hg := lg_bd h.ok (bg_go hx) (Int.le_of_lt hl)
  have := divq_win up hg.1 hx.2.1.1 hx.2.2.1.1 hg.2.1
  have hkc := prod_bd (a := x.u) (A := 1000) (b := x.c) (B := 1000000000) (by have := hx.1; omega) (by have := hx.1; omega) hx.2.2.1.1 hx.2.2.1.2
  omega
theorem bd_ln {j : Nat} {s : Sg} (h : BdS j s) {x : Lt} (hx : bgL x) (hl : 0 < s.l) : BdS (j + 1) (lnS s x) := by
  have hr := h.room hx
  have hg := lg_bd h.ok (bg_go hx) (Int.le_of_lt hl)
  have hw := ln_win h hx hl (decide (lgS s x = s.l))
  have hc := h.c0
  have hl1 := h.l1
  exact bd_set h hx (by omega) (by omega) (by omega) (by omega) (by omega) (by omega)
theorem min3_is (a b c : Int) : ∃ P, min (min a b) c = P ∧ P ≤ a ∧ P ≤ b ∧ P ≤ c ∧ (P = a ∨ P = b ∨ P = c) := ⟨_, rfl, by omega⟩
theorem sgAt_put3 {W : World} {b g : Nat} {s : Sg} (h : SgAt W b s) (hr : s.r.length = 8) (hg : g < 8) (x y z : Int) : SgAt (((W.setCell ⟨b, 0, none⟩ (.int .i64 x)).setCell ⟨b, 1, none⟩ (.int .i64 y)).setCell ⟨b, 2 + g, none⟩ (.int .i64 z)) b ⟨x, y, s.r.set g z⟩ := by
  have h1 := (sgAt_put h hr).1 x
  have h2 := (sgAt_put h1 hr).2.1 y
  exact (sgAt_put h2 hr).2.2 g hg z
def LeRel (M : List Lt) (j : Nat) (s0 : Sg) (w0 : World) (i : Value) (w : World) : Prop :=
  ∃ (k : Nat) (s : Sg), k ≤ M.length ∧ i = .int .i64 (k : Int) ∧ leS s (M.drop k) = leS s0 M ∧ BdS (j + k) s ∧ SgAt w w0.heap.size s ∧ Below w0.heap.size w0 w
set_option maxRecDepth 100000 in
set_option maxHeartbeats 12800000 in
theorem least_any20 (s : Sg) (v : Value) (M : List Lt) (j : Nat) (w : World) (hj : j + M.length ≤ 20) (hs : BdS j s) (hM : ∀ x ∈ M, bgL x) (hrow : Row ltV 4 w v M) :
    Calls Tryd.prog 71 #[sgA s, v] w fun e w' => e = .returned (.tuple #[.int .i64 (leS s M).c, .bool (decide ((leS s M).l ≤ 0))]) ∧ Below w.heap.size w w' := by
  obtain ⟨a, c, rfl⟩ := row_slice hrow
  have hx := hidden (fun k hk W (h2 : Below w.heap.size w W) => rowLt_at (hrow.below ltV_len h2 (Nat.le_refl _)) k hk)
  have hB := hidden (fun k (hk : k < M.length) => show bgL (M.getD k ltZ) from by rw [List.getD_eq_getElem?_getD, List.getElem?_eq_getElem hk]; exact hM _ (List.getElem_mem hk))
  have hst := hidden (show LeRel M j s w (.int .i64 ((0 : Nat) : Int)) (w.alloc (sgO s)) from ⟨0, s, Nat.zero_le _, rfl, rfl, hs, sgAt_new w s, below_sg w s⟩)
  generalize hfin : leS s M = fin at *
  have hfin0 := hidden hfin
  have hMl : (M.length : Int) ≤ 20 := by omega
  have hr8 := hs.ok.1
  clear hrow hM hs
  obtain ⟨sc, sl, sr⟩ := s
  obtain ⟨r0, r1, r2, r3, r4, r5, r6, r7, hsr⟩ := eight sr hr8
  subst hsr
  go_enter Tryd.func71, Tryd.ntmps71
  go_wp2_with fail
  go_loopw [13] (fun i wr => LeRel M j ⟨sc, sl, [r0, r1, r2, r3, r4, r5, r6, r7]⟩ w i wr) (fun i _ => M.length - (RowKit.intOf i).toNat)
  case atStart => exact hst.out
  case round =>
    clear hst
    obtain ⟨k, s, hk, rfl, hle, hbd, hA, hb⟩ := hrel
    rw [hfin] at hle
    have hs8 := hbd.ok.1
    by_cases hlt : k < M.length
    · obtain ⟨b, o, rfl, q0, q1, q2, q3⟩ := hx.out k hlt _ hb
      have hlI : (k : Int) < (M.length : Int) := by omega
      have hbx := hB.out k hlt
      rw [mem_drop_cons hlt] at hle
      have hAl := hidden (hA.below (below_lt wr (M.getD k ltZ)))
      have hbl := hidden (hb.trans ((below_lt wr (M.getD k ltZ)).mono hb.size))
      by_cases hl : s.l ≤ 0
      · have e1 : leS s (M.getD k ltZ :: M.drop (k + 1)) = s := le_done _ hl
        rw [e1] at hle
        obtain ⟨cc0, cc1⟩ := hAl.out.two
        have hres := hidden hle
        clear hA hx hB hb hbd e1
        generalize M.getD k ltZ = x at *
        obtain ⟨xu, xv, xc, xg⟩ := x
        simp only at q0 q1 q2 q3
        obtain ⟨c', l', r'⟩ := s
        simp only at hl cc0 cc1
        have hd : decide (l' ≤ 0) = true := decide_eq_true hl
        go_wp2_with fail
        go_region
        all_goals
          go_wp2
          go_ret2
          exact ⟨by rw [← hres.out]; show _ = Ending.returned (.tuple #[.int .i64 c', .bool (decide (l' ≤ 0))]); rw [hd]; rfl, hbl.out.drew⟩
      · have hl0 : 0 < s.l := by omega
        have e1 : leS s (M.getD k ltZ :: M.drop (k + 1)) = leS (lnS s (M.getD k ltZ)) (M.drop (k + 1)) := by rw [leS, if_neg hl]
        rw [e1] at hle
        have hnx := hidden (bd_ln hbd hbx hl0)
        have hwin := ln_win hbd hbx hl0 (decide (lgS s (M.getD k ltZ) = s.l))
        have hgb := lg_bd hbd.ok (bg_go hbx) (Int.le_of_lt hl0)
        have hrm := hbd.room hbx
        have hcb0 := hbd.c0
        have hcb1 := hbd.c1
        have hlb1 := hbd.l1
        have hjk : ((j + k : Nat) : Int) ≤ 20 := by omega
        have hput := hidden (fun W (h : SgAt W w.heap.size s) => sgAt_put h hs8)
        clear hx hB hbd e1
        generalize M.getD k ltZ = x at *
        obtain ⟨g, hg⟩ : ∃ g : Nat, x.g = (g : Int) := ⟨x.g.toNat, by have := hbx.2.2.2; omega⟩
        have hg8 : g < 8 := by have := hbx.2.2.2; omega
        have er : rmS s x = s.r.getD g 0 := by unfold rmS; rw [hg]; rfl
        have euv := prod_bd (a := x.u) (A := 1000) (b := x.v) (B := 1000000000) (by have := hbx.1; omega) (by have := hbx.1; omega) (by have := hbx.2.1; omega) hbx.2.1.2
        have hD := hidden (fun W => div_any (lgS s x) x.c x.v (decide (lgS s x = s.l)) W (by omega) (by omega) (by have := hbx.2.2.1; omega) (by have := hbx.2.2.1; omega) (by have := hbx.2.1; omega))
        have hdf := div_fine (decide (lgS s x = s.l)) hgb.1 hbx.2.1.1 hbx.2.2.1.1 hgb.2.1 hwin.2.2
        rw [hdf.1, hdf.2] at hD
        have hln : lnS s x = ⟨s.c + divq (lgS s x) x.c x.v (decide (lgS s x = s.l)), s.l - lgS s x, s.r.set g (s.r.getD g 0 - lgS s x)⟩ := by unfold lnS; rw [er, hg]; rfl
        have hlg : lgS s x = min (min (x.u * x.v) (s.r.getD g 0)) s.l := by unfold lgS; rw [er]
        rw [hln] at hnx hle
        rw [er] at hrm hgb
        have hw1 : IntKind.i64.wrap (x.u * x.v) = x.u * x.v := by rw [IntKind.wrap_i64]; omega
        clear er hln hdf
        obtain ⟨uv, huv⟩ : ∃ z, x.u * x.v = z := ⟨_, rfl⟩
        rw [huv] at hlg hw1 euv hgb
        generalize lgS s x = m at *
        generalize hq : divq m x.c x.v (decide (m = s.l)) = q at *
        have hbq : (m == s.l) = decide (m = s.l) := by rw [Bool.eq_iff_iff]; simp
        generalize decide (m = s.l) = bq at *
        obtain ⟨c', l', r'⟩ := s
        obtain ⟨t0, t1, t2, t3, t4, t5, t6, t7, hsr⟩ := eight r' hs8
        subst hsr
        obtain ⟨xu, xv, xc, xg⟩ := x
        simp only at *
        subst hg
        have hfro := hidden (fun i => NumAt.frozen hA i)
        have hlt' := NumAt.lt hA
        have hw3 : IntKind.i64.wrap (c' + q) = c' + q := by rw [IntKind.wrap_i64]; omega
        have hw4 : IntKind.i64.wrap (l' - m) = l' - m := by rw [IntKind.wrap_i64]; omega
        have hw5 : IntKind.i64.wrap ([t0, t1, t2, t3, t4, t5, t6, t7].getD g 0 - m) = [t0, t1, t2, t3, t4, t5, t6, t7].getD g 0 - m := by rw [IntKind.wrap_i64]; omega
        have hfin2 := hidden (show leS ⟨c' + q, l' - m, [t0, t1, t2, t3, t4, t5, t6, t7].set g ([t0, t1, t2, t3, t4, t5, t6, t7].getD g 0 - m)⟩ (M.drop (k + 1)) = fin from hle)
        replace hlg := hlg.symm
        have hdl : decide (l' ≤ 0) = false := decide_eq_false hl
        obtain ⟨d0, d1⟩ := hA.two
        have dg := hA.room hg8
        obtain ⟨e0, e1⟩ := hAl.out.two
        have eg := hAl.out.room hg8
        simp only at d0 d1 dg e0 e1 eg
        have hA0 := hidden hA
        have hb0 := hidden hb
        have hAl0 := hidden hAl.out
        have hbl0 := hidden hbl.out
        have hgI : (g : Int) < 8 := by omega
        have f0 := hfro.out 0
        have f1 := hfro.out 1
        have fg := hfro.out (2 + g)
        have n0 : ¬ 2 + g = 0 := by omega
        have n1 : ¬ 2 + g = 1 := by omega
        have n2 : ¬ 0 = 2 + g := by omega
        have n3 : ¬ 1 = 2 + g := by omega
        clear hle hgb hrm hcb0 hcb1 hlb1 hwin hA hAl hb hbl hfin hq hs8 euv hl hl0 hbx hfro
        generalize hrg : [t0, t1, t2, t3, t4, t5, t6, t7].getD g 0 = rg at *
        replace hrg := hidden hrg
        have hmin : ∀ (W : World) (ts : Array TypeId) (t : TypeId), (Builtin.min_ ts t #[.int .i64 uv, .int .i64 rg, .int .i64 l']).run Tryd.prog W = .ok (.int .i64 m) W := fun W ts t => by
          rw [run_min_int3, ← hlg]
          congr 2
          split <;> split <;> omega
        clear hlg
        have hend := hidden (fun (d : Nat) => sgAt_put3 (show SgAt ((wr.alloc (ltO ⟨xu, xv, xc, (g : Int)⟩)).drewN d) w.heap.size ⟨c', l', [t0, t1, t2, t3, t4, t5, t6, t7]⟩ from hAl0.out) rfl hg8 (c' + q) (l' - m) (rg - m))
        have hbe := hidden (fun (d : Nat) => ((((show Below w.heap.size w ((wr.alloc (ltO ⟨xu, xv, xc, (g : Int)⟩)).drewN d) from below_drewN hbl0.out)).setCell (p := ⟨w.heap.size, 0, none⟩) (Nat.le_refl _) (.int .i64 (c' + q))).setCell (p := ⟨w.heap.size, 1, none⟩) (Nat.le_refl _) (.int .i64 (l' - m))).setCell (p := ⟨w.heap.size, 2 + g, none⟩) (Nat.le_refl _) (.int .i64 (rg - m)))
        clear hA0 hb0 hAl0 hbl0
        cases bq
        · go_wp2_with fail
          go_region
          all_goals
            go_wp2_with fail
            (with_reducible refine (hD.out _).mono ?_)
            rintro e w5 ⟨rfl, dn, rfl⟩
            go_wp2
            go_roundw
            case rel =>
              have h1 := hend.out (1 + dn)
              have h2 := hbe.out (1 + dn)
              exact ⟨k + 1, _, hlt, by go_num, by rw [hfin0.out]; exact hfin2.out, hnx.out, h1, h2⟩
            case measure => simp [RowKit.intOf]; omega
        · obtain rfl : m = l' := eq_of_beq hbq
          clear hbq
          rw [Int.sub_self] at hend hbe hfin2 hnx
          go_wp2_with fail
          go_region
          all_goals
            go_wp2_with fail
            (with_reducible refine (hD.out _).mono ?_)
            rintro e w5 ⟨rfl, dn, rfl⟩
            go_wp2
            go_roundw
            case rel =>
              have h1 := hend.out (1 + dn)
              have h2 := hbe.out (1 + dn)
              exact ⟨k + 1, _, hlt, by go_num, by rw [hfin0.out]; exact hfin2.out, hnx.out, h1, h2⟩
            case measure => simp [RowKit.intOf]; omega
    · obtain rfl : k = M.length := by omega
      rw [List.drop_length] at hle
      have hle2 : s = fin := hle
      obtain ⟨cc0, cc1⟩ := hA.two
      have hres := hidden hle2
      have hbl := hidden hb
      clear hA hx hB hb hbd hle hle2
      obtain ⟨c', l', r'⟩ := s
      simp only at cc0 cc1
      go_wp2_with fail
      go_region
      all_goals
        go_wp2
        go_ret2
        exact ⟨by rw [← hres.out]; rfl, hbl.out.drew⟩
end Go.Proofs.YtmihpgccdknhfaaDoor

/-
  The search as it lies in memory; mayBeCheaper, pop.
-/
namespace Go.Proofs.YtmihpgccdknhfaaDoor
open Go.RowKit
set_option linter.unusedVariables false

abbrev brTy : TypeId := 117
abbrev seTy : TypeId := 79
def brV (b : Br) : List Value := [.int .i64 b.a.c, .int .i64 b.a.l, .int .i64 (b.a.r.getD 0 0), .int .i64 (b.a.r.getD 1 0), .int .i64 (b.a.r.getD 2 0), .int .i64 (b.a.r.getD 3 0), .int .i64 (b.a.r.getD 4 0), .int .i64 (b.a.r.getD 5 0), .int .i64 (b.a.r.getD 6 0), .int .i64 (b.a.r.getD 7 0), .int .i64 b.m, .int .i64 b.u]
theorem brV_len (b : Br) : (brV b).length = 12 := rfl
theorem brV_one (b : Br) : ∀ u ∈ brV b, u.oneCell' = true := fun u hu => by
  simp only [brV, List.mem_cons, List.not_mem_nil, or_false] at hu
  rcases hu with rfl | rfl | rfl | rfl | rfl | rfl | rfl | rfl | rfl | rfl | rfl | rfl <;> rfl
abbrev seO (lv pv sv bv : Value) (c k u : Int) : Obj := .cells #[lv, pv, sv, bv, .int .i64 c, .int .i64 k, .int .i64 u] seTy
/-- but for the search and its best choice. -/
abbrev TwoB (sg bg : Nat) (k : Nat) : Prop := k = sg ∨ k = bg
structure SeAt (w0 : World) (sg bg : Nat) (lv pv : Value) (bud : Int) (x : Se) (w : World) : Prop where
  ex : ∃ sv, w.heap[sg]? = some (seO lv pv sv (.slice (some ⟨bg, 0, none⟩) x.best.length x.best.length) x.cost x.looked bud) ∧ OwnR brV 12 brTy w0.heap.size w sv x.st
  best : NumAt inTy w bg x.best
  keep : Trd (TwoB sg bg) w0 w
/-- what the search only reads. -/
structure SeOf (w0 : World) (sg bg : Nat) (lv pv : Value) (M : List Lt) (pl : List Nat) : Prop where
  sl : sg < w0.heap.size
  bl : bg < w0.heap.size
  ne : sg ≠ bg
  shape : ∀ a n c, lv = .slice a n c → a = none ∨ ∃ b o, a = some ⟨b, o, none⟩
  lots : ∀ W, Trd (TwoB sg bg) w0 W → Row ltV 4 W lv M
  places : ∀ W, Trd (TwoB sg bg) w0 W → Reads .i64 W pv (nats pl)
theorem SeAt.below {w0 w w' : World} {sg bg : Nat} {lv pv : Value} {bud : Int} {x : Se} (h : SeAt w0 sg bg lv pv bud x w) (hb : Below w.heap.size w w') : SeAt w0 sg bg lv pv bud x w' := by
  obtain ⟨⟨sv, h1, h2⟩, h3, h4⟩ := h
  exact ⟨⟨sv, (hb.block _ (Array.getElem?_eq_some_iff.1 h1).1).trans h1, h2.below hb (Nat.le_refl _)⟩, h3.below hb (Nat.le_refl _), h4.trans (Trd.of_below hb (Nat.le_refl _))⟩
theorem se_cells {w : World} {sg : Nat} {lv pv sv bv : Value} {c k u : Int} (h : w.heap[sg]? = some (seO lv pv sv bv c k u)) :
    (w.cell? ⟨sg, 0, none⟩ = some lv ∧ w.cell? ⟨sg, 1, none⟩ = some pv ∧ w.cell? ⟨sg, 2, none⟩ = some sv ∧ w.cell? ⟨sg, 3, none⟩ = some bv) ∧ (w.cell? ⟨sg, 4, none⟩ = some (.int .i64 c) ∧ w.cell? ⟨sg, 5, none⟩ = some (.int .i64 k) ∧ w.cell? ⟨sg, 6, none⟩ = some (.int .i64 u)) := by
  refine ⟨⟨?_, ?_, ?_, ?_⟩, ?_, ?_, ?_⟩ <;> (rw [cell_of_row _ _ _ _ _ _ h]; rfl)
theorem se_frozen {w : World} {sg : Nat} {lv pv sv bv : Value} {c k u : Int} (h : w.heap[sg]? = some (seO lv pv sv bv c k u)) (i : Nat) : w.frozen? ⟨sg, i, none⟩ = false := by simp [World.frozen?, h]
/-- fewer of the call's own row. -/
theorem own_take20 {w : World} {base : Nat} {a : Option Addr} {n c k : Nat} {l : List Br} (h : OwnR brV 12 brTy base w (.slice a n c) l) (hk : k ≤ n) (hn : 0 < n) : OwnR brV 12 brTy base w (.slice a k c) (l.take k) := by
  have hl := (row_cap (h.row brV_len)).1
  obtain ⟨h1, h2⟩ := h
  have e : (l.take k).length = k := by rw [List.length_take]; omega
  have ef : (l.take k).flatMap brV = (l.flatMap brV).take (k * 12) := flatR_take brV_len l k
  rcases h2 with ⟨h2, h3⟩ | ⟨g, cap, cur, hv, hb, hg, hn', hc, hs, ht⟩
  · omega
  · simp only [Value.slice.injEq] at hv
    obtain ⟨rfl, rfl, rfl⟩ := hv
    unfold OwnR
    rw [e, ef]
    refine ⟨?_, .inr ⟨g, c, cur, rfl, hb, hg, by omega, hc, hs, ?_⟩⟩
    · rw [List.length_take, h1]; omega
    · rw [← ht, List.take_take]
      congr 1
      omega
/-- the last level's number is written. -/
theorem own_put20 {w : World} {base g c k : Nat} {l : List Br} (h : OwnR brV 12 brTy base w (.slice (some ⟨g, 0, none⟩) l.length c) l) (hk : k < l.length) (u : Int) :
    OwnR brV 12 brTy base (w.setCell ⟨g, k * 12 + 11, none⟩ (.int .i64 u)) (.slice (some ⟨g, 0, none⟩) l.length c) (l.set k ⟨(l.getD k brZ).a, (l.getD k brZ).m, u⟩) := by
  have hrow := row_put brV_len brZ (h.row brV_len) k hk 11 (by decide) (.int .i64 u) ⟨(l.getD k brZ).a, (l.getD k brZ).m, u⟩ rfl
  obtain ⟨h1, h2⟩ := h
  rcases h2 with ⟨h2, h3⟩ | ⟨g', cap, cur, hv, hb, hg, hn', hc, hs, ht⟩
  · omega
  · simp only [Value.slice.injEq, Option.some.injEq, Addr.mk.injEq, and_true, true_and] at hv
    obtain ⟨rfl, rfl⟩ := hv
    unfold OwnR
    rw [List.length_set]
    refine ⟨?_, .inr ⟨g, c, cur.setIfInBounds (k * 12 + 11) (.int .i64 u), rfl, hb, ?_, hn', hc, ?_, ?_⟩⟩
    · rw [flatR_len brV_len, List.length_set]
    · exact heap_setCell_row hg _
    · rw [Array.size_setIfInBounds]; exact hs
    · rw [flatR_set brV_len _ _ _ hk]
      have hlen : (l.flatMap brV).length = l.length * 12 := flatR_len brV_len l
      have hcl : l.length * 12 ≤ cur.toList.length := by rw [← hlen, ← ht, List.length_take]; omega
      have hset : (cur.setIfInBounds (k * 12 + 11) (.int .i64 u)).toList = cur.toList.set (k * 12 + 11) (.int .i64 u) := by simp
      rw [hset, List.take_set, ht]
      have hlt : k * 12 + 12 ≤ (l.flatMap brV).length := by omega
      apply List.ext_getElem?
      intro i
      have hat := fun j (hj : j < 12) => flatR_at brV_len brZ l k j hk hj
      rw [List.getElem?_set]
      by_cases q1 : i < k * 12
      · rw [if_neg (by omega), List.append_assoc, List.getElem?_append_left (by rw [List.length_take]; omega), List.getElem?_take, if_pos q1]
      · by_cases q2 : i < k * 12 + 12
        · have hA : ((l.flatMap brV).take (k * 12)).length = k * 12 := by rw [List.length_take]; omega
          rw [List.append_assoc, List.getElem?_append_right (by omega), hA, List.getElem?_append_left (by rw [brV_len]; omega)]
          obtain ⟨j, hj, rfl⟩ : ∃ j, j < 12 ∧ i = k * 12 + j := ⟨i - k * 12, by omega, by omega⟩
          rw [show k * 12 + j - k * 12 = j by omega, hat j hj]
          by_cases q3 : j = 11
          · subst q3; rw [if_pos rfl, if_pos (by omega)]; rfl
          · rw [if_neg (by omega)]
            match j, hj, q3 with
            | 0, _, _ | 1, _, _ | 2, _, _ | 3, _, _ | 4, _, _ | 5, _, _ | 6, _, _ | 7, _, _ | 8, _, _ | 9, _, _ | 10, _, _ => rfl
            | 11, _, q => exact absurd rfl q
        · have hA : ((l.flatMap brV).take (k * 12) ++ brV ⟨(l.getD k brZ).a, (l.getD k brZ).m, u⟩).length = k * 12 + 12 := by rw [List.length_append, List.length_take, brV_len]; omega
          rw [if_neg (by omega), List.getElem?_append_right (by omega), hA, List.getElem?_drop]
          congr 1
          omega
end Go.Proofs.YtmihpgccdknhfaaDoor

/-
  mayBeCheaper, pop, push.
-/
namespace Go.Proofs.YtmihpgccdknhfaaDoor
open Go.RowKit
set_option linter.unusedVariables false

abbrev TenS (b : Nat) (s : Sg) (W : World) : Prop := (W.cell? ⟨b, 0, none⟩ = some (.int .i64 s.c) ∧ W.cell? ⟨b, 1, none⟩ = some (.int .i64 s.l) ∧ W.cell? ⟨b, 2, none⟩ = some (.int .i64 (s.r.getD 0 0)) ∧ W.cell? ⟨b, 3, none⟩ = some (.int .i64 (s.r.getD 1 0)) ∧ W.cell? ⟨b, 4, none⟩ = some (.int .i64 (s.r.getD 2 0))) ∧
    (W.cell? ⟨b, 5, none⟩ = some (.int .i64 (s.r.getD 3 0)) ∧ W.cell? ⟨b, 6, none⟩ = some (.int .i64 (s.r.getD 4 0)) ∧ W.cell? ⟨b, 7, none⟩ = some (.int .i64 (s.r.getD 5 0)) ∧ W.cell? ⟨b, 8, none⟩ = some (.int .i64 (s.r.getD 6 0)) ∧ W.cell? ⟨b, 9, none⟩ = some (.int .i64 (s.r.getD 7 0)))
abbrev MbS (w1 : World) (sg : Nat) (lv sv : Value) (b : Nat) (s : Sg) (W : World) : Prop := (W.cell? ⟨sg, 0, none⟩ = some lv ∧ W.cell? ⟨sg, 2, none⟩ = some sv) ∧ TenS b s W ∧ Below w1.heap.size w1 W
theorem mbS_of {w1 W : World} {sg : Nat} {lv sv : Value} {b : Nat} {s : Sg} (h0 : w1.cell? ⟨sg, 0, none⟩ = some lv) (h2 : w1.cell? ⟨sg, 2, none⟩ = some sv) (hA : SgAt w1 b s) (hb : Below w1.heap.size w1 W) : MbS w1 sg lv sv b s W := by
  refine ⟨⟨?_, ?_⟩, (hA.below hb).ten, hb⟩
  · rw [World.cell?_of_block (w := w1) (hb.block _ (World.block_lt_of_cell? w1 _ h0))]; exact h0
  · rw [World.cell?_of_block (w := w1) (hb.block _ (World.block_lt_of_cell? w1 _ h2))]; exact h2
theorem own_shape20 {base : Nat} {w : World} {sv : Value} {st : List Br} (h : OwnR brV 12 brTy base w sv st) : ∃ a c, sv = .slice a st.length c := row_slice (h.row brV_len)
theorem drop_slice {w0 : World} {sg bg : Nat} {la : Option Addr} {lc : Nat} {M : List Lt} {k : Nat} (hO : ∀ W, Trd (TwoB sg bg) w0 W → Row ltV 4 W (.slice la M.length lc) M) (hsh : la = none ∨ ∃ b o, la = some ⟨b, o, none⟩) (hk : k ≤ M.length) :
    (lc = k ∧ ∀ W, Trd (TwoB sg bg) w0 W → Row ltV 4 W (.slice la (M.length - k) 0) (M.drop k)) ∨ (¬ lc = k ∧ ∃ b o, la = some ⟨b, o, none⟩ ∧ ∀ W, Trd (TwoB sg bg) w0 W → Row ltV 4 W (.slice (some ⟨b, o + k * 4, none⟩) (M.length - k) (lc - k)) (M.drop k)) := by
  have hr := hO w0 (Trd.refl _ _)
  obtain ⟨_, hcap, hmax, hnone⟩ := row_cap hr
  by_cases hc : lc = k
  · refine .inl ⟨hc, fun W hW => ?_⟩
    have := (row_from ltV_len (hO W hW) hk).1 hc
    rwa [show lc - k = 0 by omega] at this
  · refine .inr ⟨hc, ?_⟩
    rcases hsh with rfl | ⟨b, o, rfl⟩
    · have := hnone rfl; omega
    · refine ⟨b, o, rfl, fun W hW => ?_⟩
      have := (row_from ltV_len (hO W hW) hk).2 _ rfl
      rwa [Addr.add_lit] at this
theorem mbS_low {w1 W : World} {sg : Nat} {lv sv : Value} {b : Nat} {s : Sg} (h : MbS w1 sg lv sv b s W) : Below w1.heap.size w1 W := h.2.2
set_option maxRecDepth 100000 in
set_option maxHeartbeats 6400000 in
theorem mbc_any {w0 w : World} {sg bg : Nat} {lv pv : Value} {M : List Lt} {pl : List Nat} {bud : Int} {x : Se} (hO : SeOf w0 sg bg lv pv M pl) (hx : SeAt w0 sg bg lv pv bud x w) (hM : ∀ y ∈ M, bgL y) (hM8 : M.length ≤ 8) (c : Sg) (j : Nat) (hj : j ≤ 12) (hc : BdS j c) (hlen : x.st.length ≤ M.length) :
    Calls Tryd.prog 56 #[.pointer (some ⟨sg, 0, none⟩), sgA c] w fun e w' => e = .returned (.bool (mbC c (M.drop x.st.length) x.cost)) ∧ Below w.heap.size w w' := by
  obtain ⟨⟨sv, hrow, hown⟩, hbest, hkeep⟩ := hx
  obtain ⟨la, lc, rfl⟩ := row_slice (hO.lots w0 (Trd.refl _ _))
  obtain ⟨sa, sc, rfl⟩ := own_shape20 hown
  have hst8 : x.st.length ≤ 8 := by omega
  have hb0 := below_sg w c
  have hrow1 : (w.alloc (sgO c)).heap[sg]? = some (seO (.slice la M.length lc) pv (.slice sa x.st.length sc) (.slice (some ⟨bg, 0, none⟩) x.best.length x.best.length) x.cost x.looked bud) := (hb0.block _ (Array.getElem?_eq_some_iff.1 hrow).1).trans hrow
  obtain ⟨⟨c0, c1, c2, c3⟩, c4, c5, c6⟩ := se_cells hrow1
  have hs0 := hidden (fun W hb => mbS_of (W := W) c0 c2 (sgAt_new w c) hb)
  have hcost := hidden (fun W (hb : Below (w.alloc (sgO c)).heap.size (w.alloc (sgO c)) W) => show W.cell? ⟨sg, 4, none⟩ = some (.int .i64 x.cost) from by
    rw [World.cell?_of_block (w := w.alloc (sgO c)) (hb.block _ (World.block_lt_of_cell? _ _ c4))]; exact c4)
  have hdr := drop_slice hO.lots (hO.shape _ _ _ rfl) hlen
  have hbb := hidden (fun W (hb : Below (w.alloc (sgO c)).heap.size (w.alloc (sgO c)) W) => hb0.trans (hb.mono hb0.size))
  have hLe := hidden (fun W v hr => least_any20 c v (M.drop x.st.length) j W (by rw [List.length_drop]; omega) hc (fun y hy => hM y (List.mem_of_mem_drop hy)) hr)
  have hkW := hidden (fun W (hb : Below (w.alloc (sgO c)).heap.size (w.alloc (sgO c)) W) => hkeep.trans (Trd.of_below (hbb.out W hb) (Nat.le_refl _)))
  have hkI : (x.st.length : Int) ≤ (M.length : Int) := by omega
  have hkI2 : (x.st.length : Int) ≤ 8 := by omega
  obtain ⟨_, hcap, hmax, _⟩ := row_cap (hO.lots w0 (Trd.refl _ _))
  have hkc : (x.st.length : Int) ≤ (lc : Int) := by omega
  have hcI : (lc : Int) ≤ 9223372036854775807 := by unfold maxLen at hmax; omega
  have hways : (decide ((leS c (M.drop x.st.length)).l ≤ 0) = false ∧ mbC c (M.drop x.st.length) x.cost = false) ∨ (decide ((leS c (M.drop x.st.length)).l ≤ 0) = true ∧ decide ((leS c (M.drop x.st.length)).c < x.cost) = mbC c (M.drop x.st.length) x.cost) := by
    unfold mbC
    cases decide ((leS c (M.drop x.st.length)).l ≤ 0) <;> simp
  generalize mbC c (M.drop x.st.length) x.cost = R at *
  generalize M.drop x.st.length = D at *
  generalize leS c D = f at *
  generalize decide (f.l ≤ 0) = lb at *
  generalize f.c = fc at *
  generalize x.st.length = k at *
  generalize x.cost = K at *
  obtain ⟨r0, r1, r2, r3, r4, r5, r6, r7, hr8⟩ := eight c.r hc.ok.1
  clear hO hown hbest hkeep hrow hrow1 hM hc hb0 hcap hmax c0 c1 c2 c3 c4 c5 c6
  obtain ⟨cc, cl, cr⟩ := c
  simp only at hr8
  subst hr8
  simp only [sgA, List.getD_cons_zero, List.getD_cons_succ] at hLe
  replace hLe := hidden (fun W v hr => hLe.out W v hr)
  rcases hdr with ⟨hd1, hD⟩ | ⟨hd1, b, o, rfl, hD⟩
  all_goals
    replace hD := hidden hD
    rcases hways with ⟨q1, q2⟩ | ⟨q1, q2⟩
  · subst q1
    subst q2
    go_enter Tryd.func56, Tryd.ntmps56
    go_wp2_with fail
    go_region_held3 (fun W => (W.cell? ⟨sg, 0, none⟩ = some (.slice la M.length lc) ∧ W.cell? ⟨sg, 2, none⟩ = some (.slice sa k sc)) ∧ ((W.cell? ⟨w.heap.size, 0, none⟩ = some (.int .i64 cc) ∧ W.cell? ⟨w.heap.size, 1, none⟩ = some (.int .i64 cl) ∧ W.cell? ⟨w.heap.size, 2, none⟩ = some (.int .i64 r0) ∧ W.cell? ⟨w.heap.size, 3, none⟩ = some (.int .i64 r1) ∧ W.cell? ⟨w.heap.size, 4, none⟩ = some (.int .i64 r2)) ∧
        (W.cell? ⟨w.heap.size, 5, none⟩ = some (.int .i64 r3) ∧ W.cell? ⟨w.heap.size, 6, none⟩ = some (.int .i64 r4) ∧ W.cell? ⟨w.heap.size, 7, none⟩ = some (.int .i64 r5) ∧ W.cell? ⟨w.heap.size, 8, none⟩ = some (.int .i64 r6) ∧ W.cell? ⟨w.heap.size, 9, none⟩ = some (.int .i64 r7))) ∧ Below (w.alloc (sgO ⟨cc, cl, [r0, r1, r2, r3, r4, r5, r6, r7]⟩)).heap.size (w.alloc (sgO ⟨cc, cl, [r0, r1, r2, r3, r4, r5, r6, r7]⟩)) W)
      ((first | exact hs0.out _ (Below.refl _ _).drew | assumption | exact hs0.out _ (Below.trans (And.right (And.right (by assumption))) (hb5.mono (Below.size (And.right (And.right (by assumption))))))))
      ((go_at_call 71; (with_reducible refine (hLe.out _ _ (hD.out _ (hkW.out _ (And.right (And.right (by assumption)))))).mono ?_); rintro r w5 ⟨rfl, hb5⟩))
    all_goals
      rename_i hh
      have hlow := hh.2.2
      have c4 := hcost.out _ hlow
      have hend := hidden (hbb.out _ hlow)
      clear hh hlow hs0 hcost hLe hkW hbb
      go_wp2
      go_ret
      exact ⟨rfl, hend.out⟩
  · subst q1
    subst q2
    go_enter Tryd.func56, Tryd.ntmps56
    go_wp2_with fail
    go_region_held3 (fun W => (W.cell? ⟨sg, 0, none⟩ = some (.slice la M.length lc) ∧ W.cell? ⟨sg, 2, none⟩ = some (.slice sa k sc)) ∧ ((W.cell? ⟨w.heap.size, 0, none⟩ = some (.int .i64 cc) ∧ W.cell? ⟨w.heap.size, 1, none⟩ = some (.int .i64 cl) ∧ W.cell? ⟨w.heap.size, 2, none⟩ = some (.int .i64 r0) ∧ W.cell? ⟨w.heap.size, 3, none⟩ = some (.int .i64 r1) ∧ W.cell? ⟨w.heap.size, 4, none⟩ = some (.int .i64 r2)) ∧
        (W.cell? ⟨w.heap.size, 5, none⟩ = some (.int .i64 r3) ∧ W.cell? ⟨w.heap.size, 6, none⟩ = some (.int .i64 r4) ∧ W.cell? ⟨w.heap.size, 7, none⟩ = some (.int .i64 r5) ∧ W.cell? ⟨w.heap.size, 8, none⟩ = some (.int .i64 r6) ∧ W.cell? ⟨w.heap.size, 9, none⟩ = some (.int .i64 r7))) ∧ Below (w.alloc (sgO ⟨cc, cl, [r0, r1, r2, r3, r4, r5, r6, r7]⟩)).heap.size (w.alloc (sgO ⟨cc, cl, [r0, r1, r2, r3, r4, r5, r6, r7]⟩)) W)
      ((first | exact hs0.out _ (Below.refl _ _).drew | assumption | exact hs0.out _ (Below.trans (And.right (And.right (by assumption))) (hb5.mono (Below.size (And.right (And.right (by assumption))))))))
      ((go_at_call 71; (with_reducible refine (hLe.out _ _ (hD.out _ (hkW.out _ (And.right (And.right (by assumption)))))).mono ?_); rintro r w5 ⟨rfl, hb5⟩))
    all_goals
      rename_i hh
      have hlow := hh.2.2
      have c4 := hcost.out _ hlow
      have hend := hidden (hbb.out _ hlow)
      clear hh hlow hs0 hcost hLe hkW hbb
      go_wp2
      go_ret
      exact ⟨rfl, hend.out⟩
  · subst q1
    subst q2
    go_enter Tryd.func56, Tryd.ntmps56
    go_wp2_with fail
    go_region_held3 (fun W => (W.cell? ⟨sg, 0, none⟩ = some (.slice (some ⟨b, o, none⟩) M.length lc) ∧ W.cell? ⟨sg, 2, none⟩ = some (.slice sa k sc)) ∧ ((W.cell? ⟨w.heap.size, 0, none⟩ = some (.int .i64 cc) ∧ W.cell? ⟨w.heap.size, 1, none⟩ = some (.int .i64 cl) ∧ W.cell? ⟨w.heap.size, 2, none⟩ = some (.int .i64 r0) ∧ W.cell? ⟨w.heap.size, 3, none⟩ = some (.int .i64 r1) ∧ W.cell? ⟨w.heap.size, 4, none⟩ = some (.int .i64 r2)) ∧
        (W.cell? ⟨w.heap.size, 5, none⟩ = some (.int .i64 r3) ∧ W.cell? ⟨w.heap.size, 6, none⟩ = some (.int .i64 r4) ∧ W.cell? ⟨w.heap.size, 7, none⟩ = some (.int .i64 r5) ∧ W.cell? ⟨w.heap.size, 8, none⟩ = some (.int .i64 r6) ∧ W.cell? ⟨w.heap.size, 9, none⟩ = some (.int .i64 r7))) ∧ Below (w.alloc (sgO ⟨cc, cl, [r0, r1, r2, r3, r4, r5, r6, r7]⟩)).heap.size (w.alloc (sgO ⟨cc, cl, [r0, r1, r2, r3, r4, r5, r6, r7]⟩)) W)
      ((first | exact hs0.out _ (Below.refl _ _).drew | assumption | exact hs0.out _ (Below.trans (And.right (And.right (by assumption))) (hb5.mono (Below.size (And.right (And.right (by assumption))))))))
      ((go_at_call 71; (with_reducible refine (hLe.out _ _ (hD.out _ (hkW.out _ (And.right (And.right (by assumption)))))).mono ?_); rintro r w5 ⟨rfl, hb5⟩))
    all_goals
      rename_i hh
      have hlow := hh.2.2
      have c4 := hcost.out _ hlow
      have hend := hidden (hbb.out _ hlow)
      clear hh hlow hs0 hcost hLe hkW hbb
      go_wp2
      go_ret
      exact ⟨rfl, hend.out⟩
  · subst q1
    subst q2
    go_enter Tryd.func56, Tryd.ntmps56
    go_wp2_with fail
    go_region_held3 (fun W => (W.cell? ⟨sg, 0, none⟩ = some (.slice (some ⟨b, o, none⟩) M.length lc) ∧ W.cell? ⟨sg, 2, none⟩ = some (.slice sa k sc)) ∧ ((W.cell? ⟨w.heap.size, 0, none⟩ = some (.int .i64 cc) ∧ W.cell? ⟨w.heap.size, 1, none⟩ = some (.int .i64 cl) ∧ W.cell? ⟨w.heap.size, 2, none⟩ = some (.int .i64 r0) ∧ W.cell? ⟨w.heap.size, 3, none⟩ = some (.int .i64 r1) ∧ W.cell? ⟨w.heap.size, 4, none⟩ = some (.int .i64 r2)) ∧
        (W.cell? ⟨w.heap.size, 5, none⟩ = some (.int .i64 r3) ∧ W.cell? ⟨w.heap.size, 6, none⟩ = some (.int .i64 r4) ∧ W.cell? ⟨w.heap.size, 7, none⟩ = some (.int .i64 r5) ∧ W.cell? ⟨w.heap.size, 8, none⟩ = some (.int .i64 r6) ∧ W.cell? ⟨w.heap.size, 9, none⟩ = some (.int .i64 r7))) ∧ Below (w.alloc (sgO ⟨cc, cl, [r0, r1, r2, r3, r4, r5, r6, r7]⟩)).heap.size (w.alloc (sgO ⟨cc, cl, [r0, r1, r2, r3, r4, r5, r6, r7]⟩)) W)
      ((first | exact hs0.out _ (Below.refl _ _).drew | assumption | exact hs0.out _ (Below.trans (And.right (And.right (by assumption))) (hb5.mono (Below.size (And.right (And.right (by assumption))))))))
      ((go_at_call 71; (with_reducible refine (hLe.out _ _ (hD.out _ (hkW.out _ (And.right (And.right (by assumption)))))).mono ?_); rintro r w5 ⟨rfl, hb5⟩))
    all_goals
      rename_i hh
      have hlow := hh.2.2
      have c4 := hcost.out _ hlow
      have hend := hidden (hbb.out _ hlow)
      clear hh hlow hs0 hcost hLe hkW hbb
      go_wp2
      go_ret
      exact ⟨rfl, hend.out⟩
end Go.Proofs.YtmihpgccdknhfaaDoor

/-
  pop, push.
-/
namespace Go.Proofs.YtmihpgccdknhfaaDoor
open Go Go.RowKit
set_option linter.unusedVariables false

section
variable {w0 w : World} {sg bg : Nat} {lv pv : Value} {bud : Int} {x : Se} {M : List Lt} {pl : List Nat}
theorem SeAt.drewN (h : SeAt w0 sg bg lv pv bud x w) (n : Nat) : SeAt w0 sg bg lv pv bud x (w.drewN n) := by
  obtain ⟨⟨sv, h1, h2⟩, h3, h4⟩ := h
  exact ⟨⟨sv, h1, h2⟩, h3, h4.trans ⟨rfl, rfl, rfl, Nat.le_refl _, fun _ _ _ => rfl⟩⟩
theorem se_best (hO : SeOf w0 sg bg lv pv M pl) {l : List Int} (h : NumAt inTy w bg l) (i : Nat) (v : Value) : NumAt inTy (w.setCell ⟨sg, i, none⟩ v) bg l := by
  have hl := h.lt
  unfold NumAt at h ⊢
  rw [(Trd.setCell (S := (· = sg)) w ⟨sg, i, none⟩ v rfl).block bg hl (fun q => hO.ne q.symm)]
  exact h
theorem se_keep (hk : Trd (TwoB sg bg) w0 w) (i : Nat) (v : Value) : Trd (TwoB sg bg) w0 (w.setCell ⟨sg, i, none⟩ v) := hk.trans (Trd.setCell _ ⟨sg, i, none⟩ v (.inl rfl))
/-- the stack is another one. -/
theorem se_st (hO : SeOf w0 sg bg lv pv M pl) (h : SeAt w0 sg bg lv pv bud x w) {sv : Value} {st : List Br} (ho : OwnR brV 12 brTy w0.heap.size w sv st) : SeAt w0 sg bg lv pv bud ⟨st, x.best, x.cost, x.looked⟩ (w.setCell ⟨sg, 2, none⟩ sv) := by
  obtain ⟨⟨sv0, h1, h2⟩, h3, h4⟩ := h
  exact ⟨⟨sv, heap_setCell_row h1 sv, ownsRow_setCell_below ho hO.sl sv⟩, se_best hO h3 2 sv, se_keep h4 2 sv⟩
theorem se_cost (hO : SeOf w0 sg bg lv pv M pl) (h : SeAt w0 sg bg lv pv bud x w) (c : Int) : SeAt w0 sg bg lv pv bud ⟨x.st, x.best, c, x.looked⟩ (w.setCell ⟨sg, 4, none⟩ (.int .i64 c)) := by
  obtain ⟨⟨sv0, h1, h2⟩, h3, h4⟩ := h
  exact ⟨⟨sv0, heap_setCell_row h1 (.int .i64 c), ownsRow_setCell_below h2 hO.sl _⟩, se_best hO h3 4 _, se_keep h4 4 _⟩
theorem se_looked (hO : SeOf w0 sg bg lv pv M pl) (h : SeAt w0 sg bg lv pv bud x w) (c : Int) : SeAt w0 sg bg lv pv bud ⟨x.st, x.best, x.cost, c⟩ (w.setCell ⟨sg, 5, none⟩ (.int .i64 c)) := by
  obtain ⟨⟨sv0, h1, h2⟩, h3, h4⟩ := h
  exact ⟨⟨sv0, heap_setCell_row h1 (.int .i64 c), ownsRow_setCell_below h2 hO.sl _⟩, se_best hO h3 5 _, se_keep h4 5 _⟩
end
set_option maxRecDepth 100000 in
set_option maxHeartbeats 6400000 in
theorem pop_any {w0 w : World} {sg bg : Nat} {lv pv : Value} {M : List Lt} {pl : List Nat} {bud : Int} {x : Se} (hO : SeOf w0 sg bg lv pv M pl) (hx : SeAt w0 sg bg lv pv bud x w) (hlen : x.st.length ≤ 8) (hne : 0 < x.st.length) :
    Calls Tryd.prog 73 #[.pointer (some ⟨sg, 0, none⟩)] w fun e w' => e = .returned (.tuple #[]) ∧ SeAt w0 sg bg lv pv bud ⟨x.st.take (x.st.length - 1), x.best, x.cost, x.looked⟩ w' := by
  have hx0 := hx
  obtain ⟨⟨sv, hrow, hown⟩, hbest, hkeep⟩ := hx
  obtain ⟨sa, sc, rfl⟩ := own_shape20 hown
  obtain ⟨⟨c0, c1, c2, c3⟩, c4, c5, c6⟩ := se_cells hrow
  have f2 := se_frozen hrow 2
  have hend := hidden (se_st hO (hx0.drewN 1) (own_take20 (k := x.st.length - 1) hown (by omega) hne))
  obtain ⟨_, hcap, hmax, _⟩ := row_cap (hown.row brV_len)
  have hcI : (sc : Int) ≤ 9223372036854775807 := by unfold maxLen at hmax; omega
  have hnc : (x.st.length : Int) ≤ (sc : Int) := by omega
  have hn8 : (x.st.length : Int) ≤ 8 := by omega
  have hn0 : 0 < (x.st.length : Int) := by omega
  generalize hn : x.st.length = n at *
  obtain ⟨m, rfl⟩ : ∃ m, n = m + 1 := ⟨n - 1, by omega⟩
  have hwm : IntKind.i64.wrap (((m + 1 : Nat) : Int) - 1) = (m : Int) := by rw [IntKind.wrap_i64]; omega
  have hmc : (m : Int) ≤ (sc : Int) := by omega
  have hm0 : (0 : Int) ≤ (m : Int) := by omega
  clear hx0 hO hrow hown hbest hkeep hcap hmax hn
  go_enter Tryd.func73, Tryd.ntmps73
  go_wp2_with fail
  go_region
  all_goals
    go_wp2
    go_end0
    exact ⟨rfl, hend.out⟩
/-- 'append' at a step of a region that draws, with what stays. -/
theorem step_appRK {α : Type} {f : α → List Value} {s : Nat} {P : Program} {w : World} {ops : Array Oper} {o : Oper} {a : Act} {K : Act → World → Prop} {Q : Exit → Act → World → Prop} {E : Prop} (hgd : o.guard = none) (sl x : Operand) (t : TypeId)
    (ho : o.op = .call { callee := .builtin .append, args := #[sl, x], argTypes := #[t, t] })
    (hf : ∀ a, (f a).length = s) (h1c : ∀ a, ∀ u ∈ f a, u.oneCell' = true) (hs0 : 0 < s)
    (e : TypeId) {z : Value} {bytes : Nat} (ht : P.underlying t = some (.slice e)) (hi : (P.info? e).map (fun i => (i.zero, i.size, i.bytes)) = some (some z, s, bytes)) (hzs : z.cells.size = s) (hb64 : bytes ≤ 4096)
    (base : Nat) (v : Value) (l : List α) (hs : a.eval sl = v) (hown : OwnR f s e base w v l)
    {ad : Addr} {m c : Nat} {ys : List α} (hx : a.eval x = .slice (some ad) m c) (hr : Row f s w (.slice (some ad) m c) ys) (hn2 : l.length ≤ 1000000) (hm : ys.length ≤ 1000000) (hbase : base ≤ w.heap.size)
    (h : ∀ v' w', OwnR f s e base w' v' (l ++ ys) → Trd (fun k => v.ownBlock = some k) w w' → K (a.put o.dst v') w') :
    if Region.wanted o (yielded ops a.tmps) = true then Oper.wp P o a w K Q else E := by
  have hw : Region.wanted o (yielded ops a.tmps) = true := by simp [Region.wanted, hgd]
  rw [if_pos hw]
  obtain ⟨i, hi0, h1, h2, h3⟩ := info_parts hi
  obtain ⟨rfl, _⟩ := row_cap hr
  have hby : (l.length + ys.length) * bytes ≤ 140737488355328 := by
    calc (l.length + ys.length) * bytes ≤ (1000000 + 1000000) * 4096 := Nat.mul_le_mul (by omega) hb64
      _ ≤ _ := by decide
  have hone : ∀ u ∈ ys.flatMap f, u.oneCell' = true := fun u hu => by
    obtain ⟨y, _, hy⟩ := List.mem_flatMap.1 hu
    exact h1c y u hy
  obtain ⟨v', w', hrun, g2, g3, _⟩ := run_append_own (P := P) (w := w) base t o.type e i z s bytes ht hi0 h1 h2 h3 hzs hs0 v _ _ hown ad ys.length c (ys.flatMap f) (flatR_len hf ys) (hr.cells hf) hone (by unfold maxLen; omega) hby hbase
  unfold Oper.wp execOp
  simp only [ho, resolve, invoke, builtin, Sem.run_bind, Sem.run_pure, Result.andThen_ok, List.map_toArray, List.map_cons, List.map_nil, hs, hx, hrun]
  exact h v' w' (by unfold OwnR; rw [List.flatMap_append, List.length_append]; exact g2) (Trd.grown g3 fun k e => e)
theorem infoBr : (Tryd.prog.info? brTy).map (fun i => (i.zero, i.size, i.bytes)) = some (some (.agg #[.int .i64 0, .int .i64 0, .int .i64 0, .int .i64 0, .int .i64 0, .int .i64 0, .int .i64 0, .int .i64 0, .int .i64 0, .int .i64 0, .int .i64 0, .int .i64 0]), 12, 96) := by kernel_rfl
theorem keep_own {w0 w w' : World} {sg bg : Nat} {v : Value} (h : Trd (TwoB sg bg) w0 w) (ht : Trd (fun k => v.ownBlock = some k) w w') (hv : ∀ k, v.ownBlock = some k → w0.heap.size ≤ k) : Trd (TwoB sg bg) w0 w' :=
  ⟨ht.os.trans h.os, ht.tape.trans h.tape, ht.output.trans h.output, Nat.le_trans h.size ht.size, fun i hi hn => (ht.block i (Nat.lt_of_lt_of_le hi h.size) (fun q => by have := hv i q; omega)).trans (h.block i hi hn)⟩
theorem se_app {w0 w w6 : World} {sg bg : Nat} {lv pv : Value} {M : List Lt} {pl : List Nat} {bud : Int} {x : Se} (hO : SeOf w0 sg bg lv pv M pl) (hx : SeAt w0 sg bg lv pv bud x w) {sv v6 : Value} (o : Obj) (hr : w.heap[sg]? = some (seO lv pv sv (.slice (some ⟨bg, 0, none⟩) x.best.length x.best.length) x.cost x.looked bud))
    (hv : ∀ k, sv.ownBlock = some k → w0.heap.size ≤ k) (ht : Trd (fun k => sv.ownBlock = some k) (w.drew.alloc o) w6) {st : List Br} (ho : OwnR brV 12 brTy w0.heap.size w6 v6 st) :
    w6.cell? ⟨sg, 2, none⟩ = some sv ∧ w6.frozen? ⟨sg, 2, none⟩ = false ∧ SeAt w0 sg bg lv pv bud ⟨st, x.best, x.cost, x.looked⟩ (w6.setCell ⟨sg, 2, none⟩ v6) := by
  obtain ⟨_, h3, h4⟩ := hx
  have hb : Below w.heap.size w (w.drew.alloc o) := ((Below.refl _ w).drew).alloc (Nat.le_refl _) o
  have hsl := hO.sl
  have hbl := hO.bl
  have hlt := (Array.getElem?_eq_some_iff.1 hr).1
  have hbt := h3.lt
  have hr6 : w6.heap[sg]? = some (seO lv pv sv (.slice (some ⟨bg, 0, none⟩) x.best.length x.best.length) x.cost x.looked bud) := by
    rw [ht.block sg (by have := hb.size; omega) (fun q => by have := hv sg q; omega), hb.block sg hlt]; exact hr
  have h36 : NumAt inTy w6 bg x.best := by
    unfold NumAt at h3 ⊢
    rw [ht.block bg (by have := hb.size; omega) (fun q => by have := hv bg q; omega), hb.block bg hbt]; exact h3
  have h46 := keep_own (h4.trans (Trd.of_below hb (Nat.le_refl _))) ht hv
  exact ⟨(se_cells hr6).1.2.2.1, se_frozen hr6 2, ⟨v6, heap_setCell_row hr6 v6, ownsRow_setCell_below ho hsl v6⟩, se_best hO h36 2 v6, se_keep h46 2 v6⟩
abbrev PuS (w1 : World) (sg : Nat) (lv sv : Value) (b : Nat) (s : Sg) (lb lo : Nat) (y : Lt) (W : World) : Prop := (W.cell? ⟨sg, 0, none⟩ = some lv ∧ W.cell? ⟨sg, 2, none⟩ = some sv) ∧ TenS b s W ∧ (W.cell? ⟨lb, lo, none⟩ = some (.int .i64 y.u) ∧ W.cell? ⟨lb, lo + 1, none⟩ = some (.int .i64 y.v) ∧ W.cell? ⟨lb, lo + 2, none⟩ = some (.int .i64 y.c) ∧ W.cell? ⟨lb, lo + 3, none⟩ = some (.int .i64 y.g)) ∧ Below w1.heap.size w1 W
theorem puS_of {w1 W : World} {sg : Nat} {lv sv : Value} {b : Nat} {s : Sg} {lb lo : Nat} {y : Lt} (h0 : w1.cell? ⟨sg, 0, none⟩ = some lv) (h2 : w1.cell? ⟨sg, 2, none⟩ = some sv) (hA : SgAt w1 b s) (hL : LotAt w1 lb lo y) (hb : Below w1.heap.size w1 W) : PuS w1 sg lv sv b s lb lo y W := by
  obtain ⟨q1, q2, q3⟩ := mbS_of h0 h2 hA hb
  exact ⟨q1, q2, lotAt_below hL hb, q3⟩
set_option maxRecDepth 100000 in
set_option maxHeartbeats 6400000 in
theorem push_any {w0 w : World} {sg bg : Nat} {lv pv : Value} {M : List Lt} {pl : List Nat} {bud : Int} {x : Se} (hO : SeOf w0 sg bg lv pv M pl) (hx : SeAt w0 sg bg lv pv bud x w) (hM : ∀ y ∈ M, bgL y) (hM8 : M.length ≤ 8) (c : Sg) (j : Nat) (hj : j ≤ 12) (hc : BdS j c) (hcl : 0 < c.l) (hlen : x.st.length < M.length) :
    Calls Tryd.prog 57 #[.pointer (some ⟨sg, 0, none⟩), sgA c] w fun e w' => e = .returned (.tuple #[]) ∧ SeAt w0 sg bg lv pv bud ⟨x.st ++ [puB c (M.getD x.st.length ltZ)], x.best, x.cost, x.looked⟩ w' := by
  have hx0 := hx
  obtain ⟨⟨sv, hrow, hown⟩, hbest, hkeep⟩ := hx
  obtain ⟨la, lc, rfl⟩ := row_slice (hO.lots w0 (Trd.refl _ _))
  obtain ⟨sa, sc, rfl⟩ := own_shape20 hown
  have hb0 := below_sg w c
  have hrow1 : (w.alloc (sgO c)).heap[sg]? = some (seO (.slice la M.length lc) pv (.slice sa x.st.length sc) (.slice (some ⟨bg, 0, none⟩) x.best.length x.best.length) x.cost x.looked bud) := (hb0.block _ (Array.getElem?_eq_some_iff.1 hrow).1).trans hrow
  obtain ⟨⟨c0, c1, c2, c3⟩, c4, c5, c6⟩ := se_cells hrow1
  obtain ⟨lb, lo, rfl, hlot⟩ := rowLt_at (hO.lots _ (hkeep.trans (Trd.of_below hb0 (Nat.le_refl _)))) x.st.length hlen
  have hbl : bgL (M.getD x.st.length ltZ) := by
    rw [List.getD_eq_getElem?_getD, List.getElem?_eq_getElem hlen]; exact hM _ (List.getElem_mem hlen)
  have hs0 := hidden (fun W hb => puS_of (W := W) c0 c2 (sgAt_new w c) hlot hb)
  have hU := hidden (fun W => useful_any c (M.getD x.st.length ltZ) j W (by omega) hc hbl hcl)
  have hun := us_nn (bg_go hbl) hc.ok hcl
  have hu1 := hbl.1
  have hxW := hidden (fun W (hb : Below (w.alloc (sgO c)).heap.size (w.alloc (sgO c)) W) => (hx0.below hb0).below hb)
  have hcW := hidden (fun W (hb : Below (w.alloc (sgO c)).heap.size (w.alloc (sgO c)) W) => (sgAt_new w c).below hb)
  have hkI : (x.st.length : Int) < (M.length : Int) := by omega
  have hst8 : x.st.length ≤ 1000000 := by omega
  have hsgw := hidden (Array.getElem?_eq_some_iff.1 hrow).1
  have hO' := hidden hO
  have hRW := hidden (fun W (hb : Below (w.alloc (sgO c)).heap.size (w.alloc (sgO c)) W) => (hb.block _ (Array.getElem?_eq_some_iff.1 hrow1).1).trans hrow1)
  have hOW := hidden (fun W (hb : Below (w.alloc (sgO c)).heap.size (w.alloc (sgO c)) W) => (hown.below hb0 (Nat.le_refl _)).below hb (Nat.le_refl _))
  have hB0 := hidden hkeep.size
  have hsb := hidden (fun g (hg : (Value.slice sa x.st.length sc).ownBlock = some g) => (World.ownsRow.lt hown g hg))
  unfold puB
  have hw1 : IntKind.i64.wrap (usS c (M.getD x.st.length ltZ) + 1) = usS c (M.getD x.st.length ltZ) + 1 := by rw [IntKind.wrap_i64]; omega
  generalize usS c (M.getD x.st.length ltZ) = us at *
  generalize M.getD x.st.length ltZ = y at *
  obtain ⟨r0, r1, r2, r3, r4, r5, r6, r7, hr8⟩ := eight c.r hc.ok.1
  clear hO hx0 hown hbest hkeep hrow hrow1 hM hc hb0 c0 c1 c2 c3 c4 c5 c6 hlot hbl hun hu1 hcl
  obtain ⟨cc, cl, cr⟩ := c
  simp only at hr8
  subst hr8
  obtain ⟨yu, yv, yc, yg⟩ := y
  simp only [sgA, List.getD_cons_zero, List.getD_cons_succ] at hU
  obtain ⟨st, best, cost, looked⟩ := x
  simp only at *
  generalize hk : st.length = k at *
  go_enter Tryd.func57, Tryd.ntmps57
  go_wp2_with fail
  go_region_held3 (fun W => (W.cell? ⟨sg, 0, none⟩ = some (.slice (some ⟨lb, lo, none⟩) M.length lc) ∧ W.cell? ⟨sg, 2, none⟩ = some (.slice sa k sc)) ∧ ((W.cell? ⟨w.heap.size, 0, none⟩ = some (.int .i64 cc) ∧ W.cell? ⟨w.heap.size, 1, none⟩ = some (.int .i64 cl) ∧ W.cell? ⟨w.heap.size, 2, none⟩ = some (.int .i64 r0) ∧ W.cell? ⟨w.heap.size, 3, none⟩ = some (.int .i64 r1) ∧ W.cell? ⟨w.heap.size, 4, none⟩ = some (.int .i64 r2)) ∧
        (W.cell? ⟨w.heap.size, 5, none⟩ = some (.int .i64 r3) ∧ W.cell? ⟨w.heap.size, 6, none⟩ = some (.int .i64 r4) ∧ W.cell? ⟨w.heap.size, 7, none⟩ = some (.int .i64 r5) ∧ W.cell? ⟨w.heap.size, 8, none⟩ = some (.int .i64 r6) ∧ W.cell? ⟨w.heap.size, 9, none⟩ = some (.int .i64 r7))) ∧
        (W.cell? ⟨lb, lo + k * 4, none⟩ = some (.int .i64 yu) ∧ W.cell? ⟨lb, lo + k * 4 + 1, none⟩ = some (.int .i64 yv) ∧ W.cell? ⟨lb, lo + k * 4 + 2, none⟩ = some (.int .i64 yc) ∧ W.cell? ⟨lb, lo + k * 4 + 3, none⟩ = some (.int .i64 yg)) ∧ Below (w.alloc (sgO ⟨cc, cl, [r0, r1, r2, r3, r4, r5, r6, r7]⟩)).heap.size (w.alloc (sgO ⟨cc, cl, [r0, r1, r2, r3, r4, r5, r6, r7]⟩)) W)
      ((first | exact hs0.out _ (Below.refl _ _).drew | assumption | exact hs0.out _ (Below.trans (And.right (And.right (And.right (by assumption)))) (hb5.mono (Below.size (And.right (And.right (And.right (by assumption)))))))))
      ((go_at_call 72; (with_reducible refine (hU.out _).mono ?_); rintro r w5 ⟨rfl, hb5⟩))
  all_goals
    rename_i hh
    have hlow := hh.2.2.2
    have hx5 := hidden (hxW.out _ hlow)
    have hc5 := hcW.out _ hlow
    have hr5 := hRW.out _ hlow
    have ho5 := hidden (hOW.out _ hlow)
    have hsz5 := hidden hlow.size
    obtain ⟨⟨_, _, c2, _⟩, _⟩ := se_cells hr5
    have f2 := se_frozen hr5 2
    have c2a : ∀ o, (w5.alloc o).cell? ⟨sg, 2, none⟩ = some (.slice sa k sc) := fun o => by
      rw [World.cell?_of_block (w := w5) (((Below.refl _ w5).alloc (Nat.le_refl _) o).block _ (World.block_lt_of_cell? w5 _ c2))]; exact c2
    obtain ⟨⟨d0, d1, d2, d3, d4⟩, d5, d6, d7, d8, d9⟩ := hc5.ten
    simp only [List.getD_cons_zero, List.getD_cons_succ] at d2 d3 d4 d5 d6 d7 d8 d9
    replace hr5 := hidden hr5
    replace hc5 := hidden hc5
    clear hh hlow hs0 hU hxW hcW hb5 hRW hOW
    go_wp2_with fail
    have hB5 := hidden (show w0.heap.size ≤ (w5.drew.alloc (.cells #[.int .i64 cc, .int .i64 cl, .int .i64 r0, .int .i64 r1, .int .i64 r2, .int .i64 r3, .int .i64 r4, .int .i64 r5, .int .i64 r6, .int .i64 r7, .int .i64 us, .int .i64 (us + 1)] brTy)).heap.size from by
      have h1 := hx5.out.keep.size
      have h2 : (w5.drew.alloc (.cells #[.int .i64 cc, .int .i64 cl, .int .i64 r0, .int .i64 r1, .int .i64 r2, .int .i64 r3, .int .i64 r4, .int .i64 r5, .int .i64 r6, .int .i64 r7, .int .i64 us, .int .i64 (us + 1)] brTy)).heap.size = w5.heap.size + 1 := by simp
      omega)
    have hfin := hidden (fun v6 w6 st' ht ho => se_app hO'.out hx5.out (v6 := v6) (w6 := w6) (st := st') (.cells #[.int .i64 cc, .int .i64 cl, .int .i64 r0, .int .i64 r1, .int .i64 r2, .int .i64 r3, .int .i64 r4, .int .i64 r5, .int .i64 r6, .int .i64 r7, .int .i64 us, .int .i64 (us + 1)] brTy) hr5.out (fun g hg => (hsb.out g hg).1) ht ho)
    clear hx5 hr5 hc5 hsz5 hO' hsgw hB0 hsb
    go_region_law (refine step_appRK (by rfl) _ _ _ (by rfl) brV_len brV_one (by decide) brTy Tryd.underlying77 infoBr (by rfl) (by decide) w0.heap.size (.slice sa k sc) st (by rfl) (OwnR.alloc (w := w5.drew) ho5.out _) (ys := [⟨⟨cc, cl, [r0, r1, r2, r3, r4, r5, r6, r7]⟩, us, us + 1⟩]) (by rfl) (row_new (w := w5.drew) brV_len _ [⟨⟨cc, cl, [r0, r1, r2, r3, r4, r5, r6, r7]⟩, us, us + 1⟩] 1 rfl rfl (by decide)) (by omega) (by simp) (hB5.out) ?_; intro v6 w6 hown6 htr6; obtain ⟨g2, g3, g4⟩ := hfin.out _ _ _ htr6 hown6; obtain ⟨va, vc, rfl⟩ := own_shape20 hown6; replace g4 := hidden g4; clear hown6 htr6)
    all_goals
      go_wp2
      go_end0
      exact ⟨rfl, by have h := g4.out; rw [List.length_append, hk] at h; exact h⟩
end Go.Proofs.YtmihpgccdknhfaaDoor

/-
  keep.
-/
namespace Go.Proofs.YtmihpgccdknhfaaDoor
open Go Go.RowKit
set_option linter.unusedVariables false

theorem zero_in (w : World) : (zeroValue inTy).run Tryd.prog w = .ok (.int .i64 0) w := by
  obtain ⟨i, hi, h1, _⟩ := info_parts (show (Tryd.prog.info? inTy).map (fun i => (i.zero, i.size, i.bytes)) = some (some (.int .i64 0), 1, 8) by kernel_rfl)
  simp [zeroValue, typeInfo, hi, h1, Sem.run_bind]
/-- 'clear(s)' of a row of numbers that is a block's whole. -/
theorem clear_run {w : World} {g n : Nat} {l : List Int} (ty : TypeId) (h : NumAt inTy w g l) (hl : l.length = n) (hn : 0 < n) :
    (Builtin.clear_ #[26] ty #[.slice (some ⟨g, 0, none⟩) n n]).run Tryd.prog w = .ok (.tuple #[]) (w.setCells g 0 (List.replicate n (.int .i64 0))) ∧ NumAt inTy (w.setCells g 0 (List.replicate n (.int .i64 0))) g (List.replicate n 0) := by
  refine ⟨Lib.run_clear_slice (P := Tryd.prog) w 26 inTy ty (.int .i64 0) Tryd.underlying26 zero_in rfl rfl g 0 n n hn (fun j hj => by rw [Nat.zero_add, h.cell (by omega)]; rfl) (fun j hj => by rw [Nat.zero_add]; exact h.frozen j), ?_⟩
  have h2 := heap_setCells_row (List.replicate n (.int .i64 0)) 0 w (l.map (Value.int .i64)) (by simp [hl]) h
  have hd : (l.map (Value.int .i64)).drop n = [] := List.drop_of_length_le (by simp [hl])
  unfold NumAt
  rw [h2]
  simp [hd]
theorem own_some20 {w : World} {base : Nat} {sv : Value} {st : List Br} (h : OwnR brV 12 brTy base w sv st) (h0 : 0 < st.length) : ∃ g c, sv = .slice (some ⟨g, 0, none⟩) st.length c ∧ base ≤ g := by
  obtain ⟨h1, h2⟩ := h
  rcases h2 with ⟨h2, h3⟩ | ⟨g, cap, cur, hv, hb, hg, hn, hc, hs, ht⟩
  · omega
  · exact ⟨g, cap, hv, hb⟩
/-- a level's cells. -/
theorem br_cells {w : World} {base g c : Nat} {st : List Br} (h : OwnR brV 12 brTy base w (.slice (some ⟨g, 0, none⟩) st.length c) st) {k : Nat} (hk : k < st.length) :
    ((w.cell? ⟨g, k * 12, none⟩ = some (.int .i64 (st.getD k brZ).a.c) ∧ w.cell? ⟨g, k * 12 + 1, none⟩ = some (.int .i64 (st.getD k brZ).a.l) ∧ w.cell? ⟨g, k * 12 + 2, none⟩ = some (.int .i64 ((st.getD k brZ).a.r.getD 0 0)) ∧ w.cell? ⟨g, k * 12 + 3, none⟩ = some (.int .i64 ((st.getD k brZ).a.r.getD 1 0)) ∧ w.cell? ⟨g, k * 12 + 4, none⟩ = some (.int .i64 ((st.getD k brZ).a.r.getD 2 0)) ∧ w.cell? ⟨g, k * 12 + 5, none⟩ = some (.int .i64 ((st.getD k brZ).a.r.getD 3 0))) ∧
    (w.cell? ⟨g, k * 12 + 6, none⟩ = some (.int .i64 ((st.getD k brZ).a.r.getD 4 0)) ∧ w.cell? ⟨g, k * 12 + 7, none⟩ = some (.int .i64 ((st.getD k brZ).a.r.getD 5 0)) ∧ w.cell? ⟨g, k * 12 + 8, none⟩ = some (.int .i64 ((st.getD k brZ).a.r.getD 6 0)) ∧ w.cell? ⟨g, k * 12 + 9, none⟩ = some (.int .i64 ((st.getD k brZ).a.r.getD 7 0)) ∧ w.cell? ⟨g, k * 12 + 10, none⟩ = some (.int .i64 (st.getD k brZ).m) ∧ w.cell? ⟨g, k * 12 + 11, none⟩ = some (.int .i64 (st.getD k brZ).u))) := by
  have hat := fun j (hj : j < 12) => (World.ownsRow.cellAt h (k * 12 + j) (by omega)).trans (flatR_at brV_len brZ st k j hk hj)
  exact ⟨⟨hat 0 (by decide), hat 1 (by decide), hat 2 (by decide), hat 3 (by decide), hat 4 (by decide), hat 5 (by decide)⟩, hat 6 (by decide), hat 7 (by decide), hat 8 (by decide), hat 9 (by decide), hat 10 (by decide), hat 11 (by decide)⟩
/-- the search while its best choice is written anew. -/
structure KpAt (w0 : World) (sg bg : Nat) (lv pv sv : Value) (bud : Int) (st : List Br) (best : List Int) (cost looked : Int) (w : World) : Prop where
  row : w.heap[sg]? = some (seO lv pv sv (.slice (some ⟨bg, 0, none⟩) best.length best.length) cost looked bud)
  own : OwnR brV 12 brTy w0.heap.size w sv st
  best : NumAt inTy w bg best
  keep : Trd (TwoB sg bg) w0 w
theorem KpAt.se {w0 w : World} {sg bg : Nat} {lv pv sv : Value} {bud : Int} {st : List Br} {best : List Int} {cost looked : Int} (h : KpAt w0 sg bg lv pv sv bud st best cost looked w) : SeAt w0 sg bg lv pv bud ⟨st, best, cost, looked⟩ w := ⟨⟨sv, h.row, h.own⟩, h.best, h.keep⟩
theorem KpAt.below {w0 w w' : World} {sg bg : Nat} {lv pv sv : Value} {bud : Int} {st : List Br} {best : List Int} {cost looked : Int} (h : KpAt w0 sg bg lv pv sv bud st best cost looked w) (hb : Below w.heap.size w w') : KpAt w0 sg bg lv pv sv bud st best cost looked w' :=
  ⟨(hb.block _ (Array.getElem?_eq_some_iff.1 h.row).1).trans h.row, h.own.below hb (Nat.le_refl _), h.best.below hb (Nat.le_refl _), h.keep.trans (Trd.of_below hb (Nat.le_refl _))⟩
/-- the best choice's block is another list of as many. -/
theorem KpAt.put {w0 w w' : World} {sg bg : Nat} {lv pv sv : Value} {bud : Int} {st : List Br} {best best' : List Int} {cost looked : Int} {M : List Lt} {pl : List Nat} (hO : SeOf w0 sg bg lv pv M pl) (h : KpAt w0 sg bg lv pv sv bud st best cost looked w)
    (ht : Trd (· = bg) w w') (hl : best'.length = best.length) (hb : NumAt inTy w' bg best') : KpAt w0 sg bg lv pv sv bud st best' cost looked w' := by
  refine ⟨?_, ?_, hb, h.keep.trans (ht.mono fun k e => .inr e)⟩
  · rw [hl, ht.block sg (Array.getElem?_eq_some_iff.1 h.row).1 hO.ne]; exact h.row
  · obtain ⟨h1, h2⟩ := h.own
    refine ⟨h1, ?_⟩
    rcases h2 with h2 | ⟨g, cap, cur, hv, hbg, hg, r⟩
    · exact .inl h2
    · exact .inr ⟨g, cap, cur, hv, hbg, by rw [ht.block g (Array.getElem?_eq_some_iff.1 hg).1 (fun q => by have := hO.bl; omega)]; exact hg, r⟩
theorem KpAt.cost {w0 w : World} {sg bg : Nat} {lv pv sv : Value} {bud : Int} {st : List Br} {best : List Int} {cost looked : Int} {M : List Lt} {pl : List Nat} (hO : SeOf w0 sg bg lv pv M pl) (h : KpAt w0 sg bg lv pv sv bud st best cost looked w) (c : Int) : KpAt w0 sg bg lv pv sv bud st best c looked (w.setCell ⟨sg, 4, none⟩ (.int .i64 c)) :=
  ⟨heap_setCell_row h.row (.int .i64 c), ownsRow_setCell_below h.own hO.sl _, se_best hO h.best 4 _, se_keep h.keep 4 _⟩
def KpRel (w0 : World) (sg bg : Nat) (lv pv sv : Value) (bud : Int) (pl : List Nat) (st : List Br) (m : Nat) (cost looked : Int) (i : Value) (w : World) : Prop := ∃ k : Nat, k ≤ st.length ∧ i = .int .i64 (k : Int) ∧ KpAt w0 sg bg lv pv sv bud st (kpL pl st m k) cost looked w
set_option maxRecDepth 100000 in
set_option maxHeartbeats 6400000 in
theorem keep_any {w0 w : World} {sg bg : Nat} {lv pv : Value} {M : List Lt} {pl : List Nat} {bud : Int} {x : Se} (hO : SeOf w0 sg bg lv pv M pl) (hx : SeAt w0 sg bg lv pv bud x w) (hlen : x.st.length ≤ pl.length) (h8 : pl.length ≤ 8) (hpl : ∀ j, j < pl.length → pl.getD j 0 < x.best.length) (hm : 0 < x.best.length) (hm2 : x.best.length ≤ 8) (h0 : 0 < x.st.length) (c : Sg) :
    Calls Tryd.prog 75 #[.pointer (some ⟨sg, 0, none⟩), sgA c] w fun e w' => e = .returned (.tuple #[]) ∧ SeAt w0 sg bg lv pv bud ⟨x.st, kpL pl x.st x.best.length x.st.length, c.c, x.looked⟩ w' := by
  have hO' := hidden hO
  obtain ⟨st, best, cost, looked⟩ := x
  obtain ⟨⟨sv, hrow, hown⟩, hbest, hkeep⟩ := hx
  simp only at *
  generalize hn : best.length = n at *
  obtain ⟨sgs, sc, rfl, hgs⟩ := own_some20 hown h0
  obtain ⟨pa, pc, rfl⟩ := reads_slice (hO.places w0 (Trd.refl _ _))
  have hk0 : KpAt w0 sg bg lv (.slice pa (nats pl).length pc) (.slice (some ⟨sgs, 0, none⟩) st.length sc) bud st best cost looked w := ⟨by rw [hn]; exact hrow, hown, hbest, hkeep⟩
  have hb0 := below_sg w c
  obtain ⟨⟨c0, c1, c2, c3⟩, c4, c5, c6⟩ := se_cells hk0.row
  have f4 := se_frozen hk0.row 4
  have hk1 := hk0.cost hO c.c
  obtain ⟨⟨d0, d1, d2, d3⟩, d4, d5, d6⟩ := se_cells hk1.row
  have hsg := (Array.getElem?_eq_some_iff.1 hrow).1
  have hk2 := hidden (fun o => hk1.below ((Below.refl _ _).alloc (Nat.le_refl _) o))
  have hcl := fun o => (clear_run 0 (hk2.out o).best hn (by omega)).1
  have hst := hidden (fun o => (hk2.out o).put hO (best' := List.replicate n 0) (Trd.setCells (S := (· = bg)) rfl (List.replicate n (.int .i64 0)) 0 _) (by rw [List.length_replicate, hn]) (clear_run 0 (hk2.out o).best hn (by omega)).2)
  have e2 := fun o => (se_cells (hst.out o).row).1.2.2.1
  clear hk1 hk0 hO hk2 hrow hbest hkeep hown hb0 d0 d1 d2 d4 d5 d6 c0 c1 c2 c5 c6
  obtain ⟨cc, cl, cr⟩ := c
  simp only at *
  go_enter Tryd.func75, Tryd.ntmps75
  go_wp2_with fail
  go_loopw [20] (fun i wr => KpRel w0 sg bg lv (.slice pa (nats pl).length pc) (.slice (some ⟨sgs, 0, none⟩) st.length sc) bud pl st n cc looked i wr) (fun i _ => st.length - (RowKit.intOf i).toNat)
  case atStart => exact ⟨0, Nat.zero_le _, rfl, hst.out _⟩
  case round =>
    clear hst e2 c3 c4 d3 hcl f4 hsg
    obtain ⟨k, hk, rfl, hK⟩ := hrel
    by_cases hlt : k < st.length
    · obtain ⟨⟨b0, b1, b2, b3, b4, b5⟩, b6, b7, b8, b9, b10, b11⟩ := br_cells hK.own hlt
      obtain ⟨⟨_, c1, _, c3⟩, _⟩ := se_cells hK.row
      rw [kp_len] at c3
      obtain ⟨pb, po, rfl, cp⟩ := (hO'.out.places _ hK.keep).cell k (by rw [nats_len]; omega)
      rw [nats_at] at cp
      have hp := hpl k (by omega)
      have hpI : ((pl.getD k 0 : Nat) : Int) < (n : Int) := by omega
      have hkI : (k : Int) < (st.length : Int) := by omega
      have hkI2 : (k : Int) < ((nats pl).length : Int) := by rw [nats_len]; omega
      have cb := hK.best.cell (i := pl.getD k 0) (by rw [kp_len]; exact hp)
      have fb := hK.best.frozen (pl.getD k 0)
      have hnx := hidden (fun o => (hK.put hO'.out (best' := kpL pl st n (k + 1)) (Trd.setCell (S := (· = bg)) wr ⟨bg, pl.getD k 0, none⟩ (.int .i64 (st.getD k brZ).u) rfl) (by rw [kp_len, kp_len]) (hK.best.set (pl.getD k 0) (st.getD k brZ).u)).below (((Below.refl _ _).alloc (Nat.le_refl _) o).drew))
      have al := fun (a : Addr) (v : Value) (h : wr.cell? a = some v) => fun o => Go.Lib.cell?_alloc_some (W := wr) o h
      have c1a := al _ _ c1
      have c3a := al _ _ c3
      have cpa := al _ _ cp
      have cba := al _ _ cb
      have hbs := hK.best.lt
      clear al hK
      generalize (kpL pl st n k).getD (pl.getD k 0) 0 = old at *
      generalize pl.getD k 0 = p at *
      generalize st.getD k brZ = B at *
      go_wp2_with fail
      go_region
      all_goals
        go_wp2
        go_roundw
        case rel => exact ⟨k + 1, hlt, by go_num, hnx.out _⟩
        case measure => simp [RowKit.intOf]; omega
    · obtain rfl : k = st.length := by omega
      have hend := hidden hK.se
      clear hK
      go_wp2
      go_end0
      exact ⟨rfl, hend.out⟩
end Go.Proofs.YtmihpgccdknhfaaDoor

/-
  step.
-/
namespace Go.Proofs.YtmihpgccdknhfaaDoor
open Go Go.RowKit
set_option linter.unusedVariables false

theorem en_bd : ∀ (P : List Br) (s : Sg) (M : List Lt) (j : Nat), BdS j s → (∀ y ∈ M, bgL y) → StS s M P → BdS (j + P.length) (enS s M P)
  | [], s, [], j, h, _, _ => h
  | [], s, x :: M, j, h, _, _ => h
  | c :: P, s, [], j, h, _, hs => by cases hs
  | c :: P, s, x :: M, j, h, hM, hs => by
    have hx := hM x List.mem_cons_self
    have hn := us_nn (bg_go hx) h.ok hs.1.2.1
    have := hs.1
    have ih := en_bd P (wiS s x c.u) M (j + 1) (bd_with h hx (by omega) (by omega)) (fun y hy => hM y (List.mem_cons_of_mem _ hy)) hs.2
    rw [show j + (c :: P).length = j + 1 + P.length by simp; omega]
    exact ih
/-- the number of the level on top is written. -/
theorem se_top {w0 w : World} {sg bg : Nat} {lv pv : Value} {M : List Lt} {pl : List Nat} {bud : Int} {x : Se} (hO : SeOf w0 sg bg lv pv M pl) (hx : SeAt w0 sg bg lv pv bud x w) {P : List Br} {b : Br} (hst : x.st = P ++ [b]) :
    ∃ g c, w0.heap.size ≤ g ∧ g ≠ sg ∧ w.heap[sg]? = some (seO lv pv (.slice (some ⟨g, 0, none⟩) (P.length + 1) c) (.slice (some ⟨bg, 0, none⟩) x.best.length x.best.length) x.cost x.looked bud) ∧ OwnR brV 12 brTy w0.heap.size w (.slice (some ⟨g, 0, none⟩) (P ++ [b]).length c) (P ++ [b]) ∧
      ∀ u, (w.setCell ⟨g, P.length * 12 + 11, none⟩ (.int .i64 u)).heap[sg]? = some (seO lv pv (.slice (some ⟨g, 0, none⟩) (P.length + 1) c) (.slice (some ⟨bg, 0, none⟩) x.best.length x.best.length) x.cost x.looked bud) ∧
        OwnR brV 12 brTy w0.heap.size (w.setCell ⟨g, P.length * 12 + 11, none⟩ (.int .i64 u)) (.slice (some ⟨g, 0, none⟩) (P ++ [(⟨b.a, b.m, u⟩ : Br)]).length c) (P ++ [(⟨b.a, b.m, u⟩ : Br)]) ∧
        SeAt w0 sg bg lv pv bud ⟨P ++ [(⟨b.a, b.m, u⟩ : Br)], x.best, x.cost, x.looked⟩ (w.setCell ⟨g, P.length * 12 + 11, none⟩ (.int .i64 u)) := by
  obtain ⟨⟨sv, hrow, hown⟩, hbest, hkeep⟩ := hx
  rw [hst] at hown
  have hl : (P ++ [b]).length = P.length + 1 := by simp
  obtain ⟨g, c, rfl, hg⟩ := own_some20 hown (by omega)
  have hsl := hO.sl
  have hbl := hO.bl
  refine ⟨g, c, hg, by omega, by rw [hl] at hrow; exact hrow, hown, fun u => ?_⟩
  have hp := own_put20 hown (k := P.length) (by omega) u
  have e1 : (P ++ [b]).set P.length ⟨((P ++ [b]).getD P.length brZ).a, ((P ++ [b]).getD P.length brZ).m, u⟩ = P ++ [(⟨b.a, b.m, u⟩ : Br)] := by
    rw [br_at, List.set_append_right _ _ (Nat.le_refl _), Nat.sub_self]
    rfl
  rw [e1] at hp
  have hl2 : (P ++ [(⟨b.a, b.m, u⟩ : Br)]).length = (P ++ [b]).length := by simp
  have hr2 : (w.setCell ⟨g, P.length * 12 + 11, none⟩ (.int .i64 u)).heap[sg]? = some (seO lv pv (.slice (some ⟨g, 0, none⟩) (P.length + 1) c) (.slice (some ⟨bg, 0, none⟩) x.best.length x.best.length) x.cost x.looked bud) := by
    rw [(Trd.setCell (S := (· = g)) w ⟨g, P.length * 12 + 11, none⟩ (.int .i64 u) rfl).block sg (Array.getElem?_eq_some_iff.1 hrow).1 (by omega), hrow, hl]
  have ho2 : OwnR brV 12 brTy w0.heap.size (w.setCell ⟨g, P.length * 12 + 11, none⟩ (.int .i64 u)) (.slice (some ⟨g, 0, none⟩) (P ++ [(⟨b.a, b.m, u⟩ : Br)]).length c) (P ++ [(⟨b.a, b.m, u⟩ : Br)]) := by rw [hl2]; exact hp
  refine ⟨hr2, ho2, ⟨_, by rw [hl] at hl2; rw [← hl2] at hr2; exact hr2, ho2⟩, ?_, ?_⟩
  · have hb := hbest.lt
    unfold NumAt at hbest ⊢
    rw [(Trd.setCell (S := (· = g)) w ⟨g, P.length * 12 + 11, none⟩ (.int .i64 u) rfl).block bg hb (by omega)]
    exact hbest
  · exact ⟨hkeep.os, hkeep.tape, hkeep.output, by simpa [World.setCell] using hkeep.size, fun i hi hn => ((Trd.setCell (S := (· = g)) w ⟨g, P.length * 12 + 11, none⟩ (.int .i64 u) rfl).block i (Nat.lt_of_lt_of_le hi hkeep.size) (by omega)).trans (hkeep.block i hi hn)⟩
abbrev StS7 (w1 : World) (sg : Nat) (lv : Value) (g k : Nat) (a : Sg) (u : Int) (lb lo : Nat) (y : Lt) (W : World) : Prop := (W.cell? ⟨sg, 0, none⟩ = some lv ∧ W.cell? ⟨g, k * 12 + 11, none⟩ = some (.int .i64 u)) ∧
  ((W.cell? ⟨g, k * 12, none⟩ = some (.int .i64 a.c) ∧ W.cell? ⟨g, k * 12 + 1, none⟩ = some (.int .i64 a.l) ∧ W.cell? ⟨g, k * 12 + 2, none⟩ = some (.int .i64 (a.r.getD 0 0)) ∧ W.cell? ⟨g, k * 12 + 3, none⟩ = some (.int .i64 (a.r.getD 1 0)) ∧ W.cell? ⟨g, k * 12 + 4, none⟩ = some (.int .i64 (a.r.getD 2 0))) ∧
  (W.cell? ⟨g, k * 12 + 5, none⟩ = some (.int .i64 (a.r.getD 3 0)) ∧ W.cell? ⟨g, k * 12 + 6, none⟩ = some (.int .i64 (a.r.getD 4 0)) ∧ W.cell? ⟨g, k * 12 + 7, none⟩ = some (.int .i64 (a.r.getD 5 0)) ∧ W.cell? ⟨g, k * 12 + 8, none⟩ = some (.int .i64 (a.r.getD 6 0)) ∧ W.cell? ⟨g, k * 12 + 9, none⟩ = some (.int .i64 (a.r.getD 7 0)))) ∧
  (W.cell? ⟨lb, lo, none⟩ = some (.int .i64 y.u) ∧ W.cell? ⟨lb, lo + 1, none⟩ = some (.int .i64 y.v) ∧ W.cell? ⟨lb, lo + 2, none⟩ = some (.int .i64 y.c) ∧ W.cell? ⟨lb, lo + 3, none⟩ = some (.int .i64 y.g)) ∧ Below w1.heap.size w1 W
theorem stS7_of {w1 W : World} {base sg : Nat} {lv pv sv bv : Value} {co lk bu : Int} {g c : Nat} {P : List Br} {b : Br} {lb lo : Nat} {y : Lt} (hr : w1.heap[sg]? = some (seO lv pv sv bv co lk bu)) (ho : OwnR brV 12 brTy base w1 (.slice (some ⟨g, 0, none⟩) (P ++ [b]).length c) (P ++ [b])) (hL : LotAt w1 lb lo y) (hb : Below w1.heap.size w1 W) : StS7 w1 sg lv g P.length b.a b.u lb lo y W := by
  have hr2 : W.heap[sg]? = some (seO lv pv sv bv co lk bu) := (hb.block _ (Array.getElem?_eq_some_iff.1 hr).1).trans hr
  have hl : (P ++ [b]).length = P.length + 1 := by simp
  have hc := br_cells (ho.below hb (Nat.le_refl _)) (k := P.length) (by omega)
  rw [br_at] at hc
  obtain ⟨⟨b0, b1, b2, b3, b4, b5⟩, b6, b7, b8, b9, b10, b11⟩ := hc
  exact ⟨⟨(se_cells hr2).1.1, b11⟩, ⟨⟨b0, b1, b2, b3, b4⟩, b5, b6, b7, b8, b9⟩, lotAt_below hL hb, hb⟩
abbrev sgPut (w : World) (b : Nat) (y0 y1 y2 y3 y4 y5 y6 y7 y8 y9 : Int) : World := (((((((((w.setCell ⟨b, 0, none⟩ (.int .i64 y0)).setCell ⟨b, 1, none⟩ (.int .i64 y1)).setCell ⟨b, 2, none⟩ (.int .i64 y2)).setCell ⟨b, 3, none⟩ (.int .i64 y3)).setCell ⟨b, 4, none⟩ (.int .i64 y4)).setCell ⟨b, 5, none⟩ (.int .i64 y5)).setCell ⟨b, 6, none⟩ (.int .i64 y6)).setCell ⟨b, 7, none⟩ (.int .i64 y7)).setCell ⟨b, 8, none⟩ (.int .i64 y8)).setCell ⟨b, 9, none⟩ (.int .i64 y9)
theorem sg_put {w : World} {b : Nat} {s : Sg} (h : SgAt w b s) (y0 y1 y2 y3 y4 y5 y6 y7 y8 y9 : Int) : SgAt (sgPut w b y0 y1 y2 y3 y4 y5 y6 y7 y8 y9) b ⟨y0, y1, [y2, y3, y4, y5, y6, y7, y8, y9]⟩ :=
  NumAt.set (NumAt.set (NumAt.set (NumAt.set (NumAt.set (NumAt.set (NumAt.set (NumAt.set (NumAt.set (NumAt.set h 0 y0) 1 y1) 2 y2) 3 y3) 4 y4) 5 y5) 6 y6) 7 y7) 8 y8) 9 y9
theorem below_sgput {w W : World} {B b : Nat} (h : Below B w W) (hg : B ≤ b) (y0 y1 y2 y3 y4 y5 y6 y7 y8 y9 : Int) : Below B w (sgPut W b y0 y1 y2 y3 y4 y5 y6 y7 y8 y9) :=
  (((((((((h.setCell hg _).setCell hg _).setCell hg _).setCell hg _).setCell hg _).setCell hg _).setCell hg _).setCell hg _).setCell hg _).setCell hg _
theorem sgAt_drew (w : World) (s : Sg) : SgAt (w.alloc (sgO s)).drew w.heap.size s := sgAt_new w s
set_option maxRecDepth 100000 in
set_option maxHeartbeats 12800000 in
theorem step_any {w0 w : World} {sg bg : Nat} {lv pv : Value} {M : List Lt} {pl : List Nat} {bud : Int} {x : Se} {s0 : Sg} (hO : SeOf w0 sg bg lv pv M pl) (hx : SeAt w0 sg bg lv pv bud x w) (hM : ∀ y ∈ M, bgL y) (hM8 : M.length ≤ 8) (hs0 : BdS 0 s0) (htop : TopS s0 M x.st) (hne : x.st ≠ [])
    (hlk : 0 ≤ x.looked ∧ x.looked ≤ 1000000000000) (hpl8 : pl.length = M.length) (hpl : ∀ j, j < pl.length → pl.getD j 0 < x.best.length) (hm : 0 < x.best.length) (hm2 : x.best.length ≤ 8) :
    Calls Tryd.prog 58 #[.pointer (some ⟨sg, 0, none⟩)] w fun e w' => e = .returned (.bool (stS M pl bud x).2) ∧ SeAt w0 sg bg lv pv bud (stS M pl bud x).1 w' := by
  rcases htop with htop | ⟨P, b, hst, hP, hlen, hb⟩
  · exact absurd htop hne
  rw [st_snoc hst]
  obtain ⟨hba, hbl, hbm, hu0, hu1⟩ := hb
  have hok := (en_ok P s0 M hs0.ok (fun y hy => bg_go (hM y hy)) hP)
  have hbd := en_bd P s0 M 0 hs0 hM hP
  rw [Nat.zero_add, ← hba] at hbd
  rw [← hba] at hbl hbm hok
  have hgx : bgL (M.getD P.length ltZ) := by
    rw [List.getD_eq_getElem?_getD, List.getElem?_eq_getElem hlen]; exact hM _ (List.getElem_mem hlen)
  have hns := us_nn (bg_go hgx) hok hbl
  rw [← hbm] at hns
  have hxu := hgx.1
  obtain ⟨g, sc, hgB, hgs, hr1, ho1, hafter⟩ := se_top hO hx hst
  obtain ⟨hr2, ho2, hx2⟩ := hafter (b.u - 1)
  obtain ⟨⟨c0, c1, c2, c3⟩, c4, c5, c6⟩ := se_cells hr1
  have hlenP : (P ++ [b]).length = P.length + 1 := by simp
  have hbc := br_cells ho1 (k := P.length) (by omega)
  rw [br_at] at hbc
  obtain ⟨_, _, _, _, _, b10, b11⟩ := hbc
  have hf11 : w.frozen? ⟨g, P.length * 12 + 11, none⟩ = false := World.ownsRow.frozenAt ho1 _
  have hk8 : P.length ≤ 7 := by omega
  have hk8I : (P.length : Int) ≤ 7 := by omega
  obtain ⟨R, hR⟩ : ∃ R, stP M pl bud x P b = R := ⟨_, rfl⟩
  rw [hR]
  have hw1 : IntKind.i64.wrap (((P.length + 1 : Nat) : Int) - 1) = (P.length : Int) := by rw [IntKind.wrap_i64]; omega
  have hwu : IntKind.i64.wrap (b.u - 1) = b.u - 1 := by rw [IntKind.wrap_i64]; omega
  have hlt : (P.length : Int) < ((P.length + 1 : Nat) : Int) := by omega
  have hk0 : (0 : Int) ≤ (P.length : Int) := by omega
  by_cases q1 : b.u - 1 < 0
  · have hR1 := hidden (show R = (⟨P, x.best, x.cost, x.looked⟩, true) from by rw [← hR]; unfold stP; rw [if_pos q1])
    have hpo := hidden (pop_any hO hx2 (by show (P ++ [(⟨b.a, b.m, b.u - 1⟩ : Br)]).length ≤ 8; simp; omega) (by show 0 < (P ++ [(⟨b.a, b.m, b.u - 1⟩ : Br)]).length; simp))
    have hd : decide (b.u - 1 < 0) = true := decide_eq_true q1
    clear hafter hx2 ho2 hr2 hr1 ho1 hx hO hR hM hP hok hbd hgx hns c0 c1 c3 c4 c5 c6 b10
    have e1 : (P ++ [(⟨b.a, b.m, b.u - 1⟩ : Br)]).take ((P ++ [(⟨b.a, b.m, b.u - 1⟩ : Br)]).length - 1) = P := by simp
    rw [e1] at hpo
    clear e1
    go_enter Tryd.func58, Tryd.ntmps58
    go_wp2_with fail
    (with_reducible refine hpo.out.mono ?_)
    rintro e w5 ⟨rfl, hx5⟩
    replace hx5 := hidden hx5
    clear hpo
    go_wp2
    go_ret
    exact ⟨by rw [hR1.out]; rfl, by rw [hR1.out]; exact hx5.out⟩
  · have hd : decide (b.u - 1 < 0) = false := decide_eq_false q1
    have hR1 := hR
    unfold stP at hR1
    rw [if_neg q1] at hR1
    replace hR1 := hidden hR1
    have hdc : dcB b = ⟨b.a, b.m, b.u - 1⟩ := rfl
    rw [hdc] at hR1
    have hbdc := hidden (bd_with hbd hgx (k := b.u - 1) (by omega) (by omega))
    have hWi := hidden (fun W => with_any b.a (M.getD P.length ltZ) (b.u - 1) P.length W (by omega) hbd hgx (by omega) (by omega))
    obtain ⟨la, lc, rfl⟩ := row_slice (hO.lots w0 (Trd.refl _ _))
    obtain ⟨lb, lo, rfl, hlot⟩ := rowLt_at (hO.lots _ hx2.keep) P.length hlen
    have hs0' := hidden (fun W hb => stS7_of (W := W) hr2 ho2 hlot hb)
    have hx2' := hidden (fun W hb => hx2.below (w' := W) hb)
    have hr2' := hidden hr2
    have ho2' := hidden ho2
    have hlenI : (P.length : Int) < (M.length : Int) := by omega
    have hO' := hidden hO
    have hM' := hidden hM
    obtain ⟨q0, q1', q2, q3, q4, q5, q6, q7, hq8⟩ := eight (wiS b.a (M.getD P.length ltZ) (b.u - 1)).r hbdc.out.ok.1
    obtain ⟨t0, t1, t2, t3, t4, t5, t6, t7, ht8⟩ := eight b.a.r hbd.ok.1
    clear hafter hx2 ho2 hr2 hr1 ho1 hx hO hR hM hP hok hbd hns c0 c1 c3 c4 c5 c6 b10 hlot hxu hba hbm hs0 hgx hbl
    generalize wiS b.a (M.getD P.length ltZ) (b.u - 1) = c at *
    generalize M.getD P.length ltZ = y at *
    obtain ⟨ba, bm, bu⟩ := b
    obtain ⟨ac, al, ar⟩ := ba
    obtain ⟨cc, cl, cr⟩ := c
    obtain ⟨yu, yv, yc, yg⟩ := y
    simp only at ht8 hq8
    subst ht8
    subst hq8
    simp only [sgA, StS7, List.getD_cons_zero, List.getD_cons_succ] at *
    go_enter Tryd.func58, Tryd.ntmps58
    go_upto_region 7 with (fail)
    generalize w.setCell ⟨g, P.length * 12 + 11, none⟩ (.int .i64 (bu - 1)) = w1 at *
    go_cut [5] (fun v wx => ∃ gx, v = .pointer (some ⟨gx, 0, none⟩) ∧ SgAt wx gx ⟨cc, cl, [q0, q1', q2, q3, q4, q5, q6, q7]⟩ ∧ w1.heap.size ≤ gx ∧ Below w1.heap.size w1 wx)
    case first =>
      have hz1 := hidden (Below.refl w1.heap.size w1).drew
      have hz0 := hidden (fun o => ((Below.refl w1.heap.size w1).alloc (Nat.le_refl _) o).drew)
      have hz2 := hidden (fun o => ((Below.refl w1.heap.size w1).drew).alloc (Nat.le_refl _) o)
      go_region_held3 (fun W => (W.cell? ⟨sg, 0, none⟩ = some (.slice (some ⟨lb, lo, none⟩) M.length lc) ∧ W.cell? ⟨g, P.length * 12 + 11, none⟩ = some (.int .i64 (bu - 1))) ∧
        ((W.cell? ⟨g, P.length * 12, none⟩ = some (.int .i64 ac) ∧ W.cell? ⟨g, P.length * 12 + 1, none⟩ = some (.int .i64 al) ∧ W.cell? ⟨g, P.length * 12 + 2, none⟩ = some (.int .i64 t0) ∧ W.cell? ⟨g, P.length * 12 + 3, none⟩ = some (.int .i64 t1) ∧ W.cell? ⟨g, P.length * 12 + 4, none⟩ = some (.int .i64 t2)) ∧
        (W.cell? ⟨g, P.length * 12 + 5, none⟩ = some (.int .i64 t3) ∧ W.cell? ⟨g, P.length * 12 + 6, none⟩ = some (.int .i64 t4) ∧ W.cell? ⟨g, P.length * 12 + 7, none⟩ = some (.int .i64 t5) ∧ W.cell? ⟨g, P.length * 12 + 8, none⟩ = some (.int .i64 t6) ∧ W.cell? ⟨g, P.length * 12 + 9, none⟩ = some (.int .i64 t7))) ∧
        (W.cell? ⟨lb, lo + P.length * 4, none⟩ = some (.int .i64 yu) ∧ W.cell? ⟨lb, lo + P.length * 4 + 1, none⟩ = some (.int .i64 yv) ∧ W.cell? ⟨lb, lo + P.length * 4 + 2, none⟩ = some (.int .i64 yc) ∧ W.cell? ⟨lb, lo + P.length * 4 + 3, none⟩ = some (.int .i64 yg)) ∧ Below w1.heap.size w1 W)
        ((first | with_reducible exact hs0'.out _ hz1.out | with_reducible assumption | with_reducible exact hs0'.out _ hz6.out | with_reducible exact hs0'.out _ (hz6.out.alloc hz6.out.size _) | with_reducible exact hs0'.out _ (hz0.out _) | with_reducible exact hs0'.out _ (hz2.out _) | with_reducible exact hs0'.out _ (below_sgput hz6.out hg6.out _ _ _ _ _ _ _ _ _ _)))
        ((go_at_call 74; (with_reducible refine (hWi.out _).mono ?_); rintro r w6 ⟨rfl, hb6⟩; have hz6 := hidden (show Below w1.heap.size w1 w6 from Below.trans (And.right (And.right (And.right (by assumption)))) (hb6.mono (Below.size (And.right (And.right (And.right (by assumption))))))); first | (have hx6 : Hid (SgAt w6 w1.heap.size sgZ) := hidden ((sgAt_drew w1 sgZ).below hb6); have hg6 := hidden (Nat.le_refl w1.heap.size); obtain ⟨⟨z0, z1, z2, z3, z4⟩, z5, z6, z7, z8, z9⟩ := hx6.out.ten; have f0 := NumAt.frozen hx6.out 0; have f1 := NumAt.frozen hx6.out 1; have f2 := NumAt.frozen hx6.out 2; have f3 := NumAt.frozen hx6.out 3; have f4 := NumAt.frozen hx6.out 4; have f5 := NumAt.frozen hx6.out 5; have f6 := NumAt.frozen hx6.out 6; have f7 := NumAt.frozen hx6.out 7; have f8 := NumAt.frozen hx6.out 8; have f9 := NumAt.frozen hx6.out 9) | skip))
      all_goals (go_wp2_with fail; go_meet; first | exact ⟨_, rfl, sg_put hx6.out cc cl q0 q1' q2 q3 q4 q5 q6 q7, hg6.out, below_sgput hz6.out hg6.out _ _ _ _ _ _ _ _ _ _⟩ | exact ⟨_, rfl, sgAt_new _ ⟨cc, cl, [q0, q1', q2, q3, q4, q5, q6, q7]⟩, hz6.out.size, hz6.out.alloc hz6.out.size _⟩)
    case rest =>
      obtain ⟨gx, rfl, hA, hgx, hbx⟩ := hcut
      have hxc := hx2'.out wc hbx
      have hrc := (hbx.block _ (Array.getElem?_eq_some_iff.1 hr2'.out).1).trans hr2'.out
      have hoc := ho2'.out.below hbx (Nat.le_refl _)
      have hsg1 := (Array.getElem?_eq_some_iff.1 hr2'.out).1
      have hl2 : (P ++ [(⟨⟨ac, al, [t0, t1, t2, t3, t4, t5, t6, t7]⟩, bm, bu - 1⟩ : Br)]).length = P.length + 1 := by simp
      have hmb := mbc_any hO'.out hxc hM'.out hM8 _ (P.length + 1) (by omega) hbdc.out (by show (P ++ [(⟨⟨ac, al, [t0, t1, t2, t3, t4, t5, t6, t7]⟩, bm, bu - 1⟩ : Br)]).length ≤ M.length; omega)
      simp only [hl2, sgA, List.getD_cons_zero, List.getD_cons_succ] at hmb
      have hroom : mbC ⟨cc, cl, [q0, q1', q2, q3, q4, q5, q6, q7]⟩ (M.drop (P.length + 1)) x.cost = true → 0 < cl → P.length + 1 < M.length := fun h1 h2 => by
        apply Decidable.byContradiction
        intro hh
        have e : M.drop (P.length + 1) = [] := List.drop_of_length_le (by omega)
        rw [e] at h1
        unfold mbC leS at h1
        rw [decide_eq_false (by show ¬ cl ≤ 0; omega)] at h1
        simp at h1
      obtain ⟨⟨d0, d1, d2, d3, d4⟩, d5, d6, d7, d8, d9⟩ := hA.ten
      simp only [List.getD_cons_zero, List.getD_cons_succ] at d2 d3 d4 d5 d6 d7 d8 d9
      generalize mbC ⟨cc, cl, [q0, q1', q2, q3, q4, q5, q6, q7]⟩ (M.drop (P.length + 1)) x.cost = ch at *
      replace hroom := hidden hroom
      replace hmb := hidden hmb
      have hxW := hidden (fun W hb => hxc.below (w' := W) hb)
      have hrW := hidden (fun W (hb : Below wc.heap.size wc W) => (hb.block _ (Array.getElem?_eq_some_iff.1 hrc).1).trans hrc)
      have hoW := hidden (fun W (hb : Below wc.heap.size wc W) => hoc.below hb (Nat.le_refl _))
      have hAW := hidden (fun W (hb : Below wc.heap.size wc W) => SgAt.below hA hb)
      have hgs2 : ¬ gx = sg := by omega
      have hgs3 : ¬ sg = gx := by omega
      clear hxc hrc hoc hA hx2' hr2' ho2' hs0' hbx hsg1 hgx
      go_wp2_with fail
      (with_reducible refine hmb.out.mono ?_)
      rintro e w6 ⟨rfl, hb6⟩
      have hx6 := hidden (hxW.out _ hb6)
      have hr6 := hrW.out _ hb6
      have ho6 := hoW.out _ hb6
      have hA6 := hAW.out _ hb6
      obtain ⟨_, e4, e5, e6⟩ := se_cells hr6
      have f5 := se_frozen hr6 5
      have hb12 := br_cells ho6 (k := P.length) (by omega)
      rw [br_at] at hb12
      obtain ⟨_, _, _, _, _, b10, b11'⟩ := hb12
      obtain ⟨⟨d0', d1', d2', d3', d4'⟩, d5', d6', d7', d8', d9'⟩ := hA6.ten
      simp only [List.getD_cons_zero, List.getD_cons_succ] at d2' d3' d4' d5' d6' d7' d8' d9'
      clear hmb hxW hrW hoW hAW hb6 d0 d1 d2 d3 d4 d5 d6 d7 d8 d9 hA6 ho6 hr6
      generalize x.looked = lk at *
      generalize x.best = be at *
      generalize x.cost = co at *
      have hwl : IntKind.i64.wrap (lk + 1) = lk + 1 := by rw [IntKind.wrap_i64]; omega
      have hgs4 : ¬ g = sg := hgs
      have hgs5 : ¬ sg = g := fun q => hgs q.symm
      have hl3 := hidden (show SeAt w0 sg bg (.slice (some ⟨lb, lo, none⟩) M.length lc) pv bud ⟨P ++ [(⟨⟨ac, al, [t0, t1, t2, t3, t4, t5, t6, t7]⟩, bm, bu - 1⟩ : Br)], be, co, lk + 1⟩ (w6.setCell ⟨sg, 5, none⟩ (.int .i64 (lk + 1))) from se_looked hO'.out hx6.out (lk + 1))
      cases ch
      · rw [if_neg (by decide)] at hR1
        by_cases q4' : lk = bud
        · subst q4'
          rw [if_pos rfl] at hR1
          have hend := hidden (hx6.out.drewN 1)
          clear hx6 hl3
          go_wp2_with fail
          go_region
          all_goals
            go_wp2
            go_ret
            exact ⟨by rw [← hR1.out]; rfl, by rw [← hR1.out]; exact hend.out⟩
        · rw [if_neg q4'] at hR1
          have hql : (lk == bud) = false := by rw [beq_eq_false_iff_ne]; exact q4'
          by_cases q5' : bu - 1 < bm
          · rw [if_pos q5'] at hR1
            have hdm : decide (bu - 1 < bm) = true := decide_eq_true q5'
            have hxd := hidden (show SeAt w0 sg bg (.slice (some ⟨lb, lo, none⟩) M.length lc) pv bud ⟨P ++ [(⟨⟨ac, al, [t0, t1, t2, t3, t4, t5, t6, t7]⟩, bm, bu - 1⟩ : Br)], be, co, lk + 1⟩ (w6.setCell ⟨sg, 5, none⟩ (.int .i64 (lk + 1))).drew.drew from hl3.out.drewN 2)
            have hpo := hidden (pop_any hO'.out hxd.out (by show (P ++ [(⟨⟨ac, al, [t0, t1, t2, t3, t4, t5, t6, t7]⟩, bm, bu - 1⟩ : Br)]).length ≤ 8; omega) (by show 0 < (P ++ [(⟨⟨ac, al, [t0, t1, t2, t3, t4, t5, t6, t7]⟩, bm, bu - 1⟩ : Br)]).length; omega))
            have e1 : (P ++ [(⟨⟨ac, al, [t0, t1, t2, t3, t4, t5, t6, t7]⟩, bm, bu - 1⟩ : Br)]).take ((P ++ [(⟨⟨ac, al, [t0, t1, t2, t3, t4, t5, t6, t7]⟩, bm, bu - 1⟩ : Br)]).length - 1) = P := by simp
            rw [e1] at hpo
            clear hx6 hxd hl3 e1
            go_wp2_with fail
            go_region
            all_goals
              go_wp2_with fail
              go_region
              all_goals
                go_wp2_with fail
                (with_reducible refine hpo.out.mono ?_)
                rintro e w7 ⟨rfl, hx7⟩
                replace hx7 := hidden hx7
                clear hpo
                go_wp2
                go_ret
                exact ⟨by rw [← hR1.out]; rfl, by rw [← hR1.out]; exact hx7.out⟩
          · rw [if_neg q5'] at hR1
            have hdm : decide (bu - 1 < bm) = false := decide_eq_false q5'
            have hend := hidden (fun n => hl3.out.drewN n)
            clear hx6 hl3
            go_wp2_with fail
            go_region
            all_goals
              go_wp2_with fail
              go_region
              all_goals
                go_wp2
                go_ret
                exact ⟨by rw [← hR1.out]; rfl, by rw [← hR1.out]; exact hend.out 2⟩
      · by_cases q3' : 0 < cl
        · have hdl : decide (0 < cl) = true := decide_eq_true q3'
          have hpu := hidden (push_any hO'.out hx6.out hM'.out hM8 _ (P.length + 1) (by omega) hbdc.out q3' (by show (P ++ [(⟨⟨ac, al, [t0, t1, t2, t3, t4, t5, t6, t7]⟩, bm, bu - 1⟩ : Br)]).length < M.length; rw [hl2]; exact hroom.out rfl q3'))
          simp only [hl2, sgA, List.getD_cons_zero, List.getD_cons_succ] at hpu
          rw [if_pos rfl, if_pos q3'] at hR1
          clear hx6 hroom
          go_wp2_with fail
          (with_reducible refine hpu.out.mono ?_)
          rintro e w7 ⟨rfl, hx7⟩
          replace hx7 := hidden hx7
          clear hpu
          go_wp2
          go_ret
          exact ⟨by rw [← hR1.out]; rfl, by rw [← hR1.out]; exact hx7.out⟩
        · rw [if_pos rfl, if_neg q3'] at hR1
          have hdl : decide (0 < cl) = false := decide_eq_false q3'
          by_cases q4' : lk = bud
          · subst q4'
            rw [if_pos rfl] at hR1
            have hend := hidden (hx6.out.drewN 1)
            clear hx6 hl3
            go_wp2_with fail
            go_region
            all_goals
              go_wp2
              go_ret
              exact ⟨by rw [← hR1.out]; rfl, by rw [← hR1.out]; exact hend.out⟩
          · rw [if_neg q4'] at hR1
            have hql : (lk == bud) = false := by rw [beq_eq_false_iff_ne]; exact q4'
            have hxd := hidden (show SeAt w0 sg bg (.slice (some ⟨lb, lo, none⟩) M.length lc) pv bud ⟨P ++ [(⟨⟨ac, al, [t0, t1, t2, t3, t4, t5, t6, t7]⟩, bm, bu - 1⟩ : Br)], be, co, lk + 1⟩ (w6.setCell ⟨sg, 5, none⟩ (.int .i64 (lk + 1))).drew from hl3.out.drewN 1)
            have hkp := hidden (keep_any hO'.out hxd.out (by show (P ++ [(⟨⟨ac, al, [t0, t1, t2, t3, t4, t5, t6, t7]⟩, bm, bu - 1⟩ : Br)]).length ≤ pl.length; omega) (by omega) hpl hm hm2 (by show 0 < (P ++ [(⟨⟨ac, al, [t0, t1, t2, t3, t4, t5, t6, t7]⟩, bm, bu - 1⟩ : Br)]).length; omega) ⟨cc, cl, [q0, q1', q2, q3, q4, q5, q6, q7]⟩)
            simp only [hl2, sgA, List.getD_cons_zero, List.getD_cons_succ] at hkp
            clear hx6 hxd hl3
            go_wp2_with fail
            go_region
            all_goals
              go_wp2_with fail
              (with_reducible refine hkp.out.mono ?_)
              rintro e w7 ⟨rfl, hx7⟩
              replace hx7 := hidden hx7
              clear hkp
              go_wp2
              go_ret
              exact ⟨by rw [← hR1.out]; rfl, by rw [← hR1.out]; exact hx7.out⟩
end Go.Proofs.YtmihpgccdknhfaaDoor
