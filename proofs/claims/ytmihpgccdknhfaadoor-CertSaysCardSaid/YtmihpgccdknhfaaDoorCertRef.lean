/-
  The document's Rate, Least.
-/
import Derived.Test.YtmihpgccdknhfaaDoorBound1
import Derived.Test.YtmihpgccdknhfaaDoorLotsRef1
import Derived.Test.YtmihpgccdknhfaaDoorRefFix
namespace Go.Proofs.YtmihpgccdknhfaaDoor
open Go Go.RowKit
set_option linter.unusedVariables false

def rtI : Option Nat → Int
  | none => -1
  | some r => (r : Int)
theorem rtTo_none (L : List Lt) (F : Nat) : ∀ k, k ≤ F → rtTo L F k = none
  | 0, _ => rfl
  | k + 1, h => by
    have ih := rtTo_none L F k (by omega)
    unfold rtTo
    rw [decide_eq_false (by omega), Bool.false_and]
    exact ih
theorem rt_ways (L : List Lt) (F j : Nat) :
    (decide (0 < (L.getD (F + j) ltZ).v) = false ∧ rtTo L F (F + j + 1) = rtTo L F (F + j)) ∨
    (decide (0 < (L.getD (F + j) ltZ).v) = true ∧ decide (0 < (L.getD (F + j) ltZ).u) = false ∧ rtTo L F (F + j + 1) = rtTo L F (F + j)) ∨
    (decide (0 < (L.getD (F + j) ltZ).v) = true ∧ decide (0 < (L.getD (F + j) ltZ).u) = true ∧ rtTo L F (F + j) = none ∧ rtTo L F (F + j + 1) = some (F + j)) ∨
    (decide (0 < (L.getD (F + j) ltZ).v) = true ∧ decide (0 < (L.getD (F + j) ltZ).u) = true ∧ ∃ r, r < F + j ∧ rtTo L F (F + j) = some r ∧ ((dear (L.getD r ltZ) (L.getD (F + j) ltZ) = true ∧ rtTo L F (F + j + 1) = some (F + j)) ∨ (dear (L.getD r ltZ) (L.getD (F + j) ltZ) = false ∧ rtTo L F (F + j + 1) = rtTo L F (F + j)))) := by
  have hn := rtTo_next L F j
  have hi := rateIs_to L F (F + j)
  by_cases h1 : 0 < (L.getD (F + j) ltZ).v
  · by_cases h2 : 0 < (L.getD (F + j) ltZ).u
    · have hr : ratedB (L.getD (F + j) ltZ) = true := ratedB_iff.2 ⟨h1, h2⟩
      rw [hr, if_pos rfl] at hn
      cases ho : rtTo L F (F + j) with
      | none =>
        rw [ho] at hn
        exact .inr (.inr (.inl ⟨decide_eq_true h1, decide_eq_true h2, rfl, hn⟩))
      | some r =>
        rw [ho] at hn hi
        simp only at hn
        refine .inr (.inr (.inr ⟨decide_eq_true h1, decide_eq_true h2, r, (hi.2 r rfl).2.1, rfl, ?_⟩))
        cases hd : dear (L.getD r ltZ) (L.getD (F + j) ltZ)
        · rw [hd, if_neg (by simp)] at hn
          exact .inr ⟨rfl, hn⟩
        · rw [hd, if_pos rfl] at hn
          exact .inl ⟨rfl, hn⟩
    · have hr : ¬ ratedB (L.getD (F + j) ltZ) = true := fun q => h2 (ratedB_iff.1 q).2
      rw [if_neg hr] at hn
      exact .inr (.inl ⟨decide_eq_true h1, decide_eq_false h2, hn⟩)
  · have hr : ¬ ratedB (L.getD (F + j) ltZ) = true := fun q => h1 (ratedB_iff.1 q).1
    rw [if_neg hr] at hn
    exact .inl ⟨decide_eq_false h1, hn⟩
abbrev RtS (w0 : World) (g : Nat) (lv : Value) (q p : Nat) (y : Lt) (gx : Nat) (z : Lt) (W : World) : Prop :=
  W.cell? ⟨g, 0, none⟩ = some lv ∧ (W.cell? ⟨q, p, none⟩ = some (.int .i64 y.u) ∧ W.cell? ⟨q, p + 1, none⟩ = some (.int .i64 y.v) ∧ W.cell? ⟨q, p + 2, none⟩ = some (.int .i64 y.c) ∧ W.cell? ⟨q, p + 3, none⟩ = some (.int .i64 y.g)) ∧
    (W.cell? ⟨gx, 0, none⟩ = some (.int .i64 z.u) ∧ W.cell? ⟨gx, 1, none⟩ = some (.int .i64 z.v) ∧ W.cell? ⟨gx, 2, none⟩ = some (.int .i64 z.c) ∧ W.cell? ⟨gx, 3, none⟩ = some (.int .i64 z.g)) ∧ Below w0.heap.size w0 W
theorem rtS_drew {w0 W : World} {g : Nat} {lv : Value} {q p : Nat} {y : Lt} {gx : Nat} {z : Lt} (h : RtS w0 g lv q p y gx z W) : RtS w0 g lv q p y gx z W.drew := ⟨h.1, h.2.1, h.2.2.1, h.2.2.2.drew⟩
theorem rtS_next {w0 W W' : World} {g : Nat} {lv : Value} {q p : Nat} {y : Lt} {gx : Nat} {z : Lt} (h : RtS w0 g lv q p y gx z W) (hb : Below W.heap.size W W') : RtS w0 g lv q p y gx z W' := by
  have h3 : LotAt W gx 0 z := h.2.2.1
  refine ⟨?_, lotAt_below h.2.1 hb, (lotAt_below h3 hb : LotAt W' gx 0 z), h.2.2.2.trans (hb.mono h.2.2.2.size)⟩
  rw [World.cell?_of_block (w := W) (hb.block _ (World.block_lt_of_cell? W _ h.1))]; exact h.1
def RtRel (L : List Lt) (F : Nat) (w0 : World) (a i : Value) (w : World) : Prop := ∃ j : Nat, F + j ≤ L.length ∧ i = .int .i64 ((F + j : Nat) : Int) ∧ a = .int .i64 (rtI (rtTo L F (F + j))) ∧ Below w0.heap.size w0 w
set_option maxRecDepth 100000 in
set_option maxHeartbeats 12800000 in
theorem r18Rate_any (lv cv : Value) (L : List Lt) (C : List Int) (n : Int) (F : Nat) (w : World) (h : PbR w lv cv L C) (hok : OkP L C n) (hF : F ≤ L.length) :
    Calls Tryd.prog 27 #[pbA lv cv n, .int .i64 (F : Int)] w fun e w' => e = .returned (.tuple #[.int .i64 (chL L F).c, .int .i64 (chL L F).v, .bool (rtOf L F).isSome]) ∧ Below w.heap.size w w' := by
  obtain ⟨la, lc, rfl⟩ := row_slice h.lots
  obtain ⟨ca, cc, rfl⟩ := reads_slice h.caps
  have hb0 := below_pb w pbTyR (.slice la L.length lc) (.slice ca C.length cc) n
  have hpb := pbAt_new w pbTyR (.slice la L.length lc) (.slice ca C.length cc) n
  have hbx := hidden (fun W (hW : Below (w.alloc (pbO pbTyR (.slice la L.length lc) (.slice ca C.length cc) n)).heap.size (w.alloc (pbO pbTyR (.slice la L.length lc) (.slice ca C.length cc) n)) W) => hb0.trans (hW.mono hb0.size))
  have hc := hidden (fun W (hW : Below (w.alloc (pbO pbTyR (.slice la L.length lc) (.slice ca C.length cc) n)).heap.size (w.alloc (pbO pbTyR (.slice la L.length lc) (.slice ca C.length cc) n)) W) => (hpb.below hW (Nat.le_refl _)).cells)
  have hV := r18Valid_any (.slice la L.length lc) (.slice ca C.length cc) L C n _ (h.below (hbx.out _ (Below.refl _ _)) (Nat.le_refl _))
  rw [pbC_ok hok] at hV
  replace hV := hidden hV
  have hx := hidden (fun k hk W hW => rowLt_at (h.lots.below ltV_len (hbx.out W hW) (Nat.le_refl _)) k hk)
  have hD := hidden (fun i j W (hi : i < L.length) (hj : j < L.length) => r18Dear_any (L.getD i ltZ) (L.getD j ltZ) W (h.lotBig hi) (h.lotBig hj))
  have hL8 : (L.length : Int) ≤ 8 := by have := hok.1.1.2; omega
  have hch := chL_rate hok hF
  have hro := rateIs_of L F
  have hrt : rtOf L F = rtTo L F L.length := rfl
  rw [hrt] at hch hro ⊢
  obtain ⟨d0, d1, d2⟩ := hc.out _ (Below.refl _ _)
  have hF0 : (0 : Int) ≤ (F : Int) := by omega
  replace hro := hidden hro
  replace hch := hidden hch
  have hst := hidden (rtTo_none L F F (Nat.le_refl _))
  have hrw := hidden (rt_ways L F)
  clear h hb0 hpb hok hrt
  go_enter Tryd.func27, Tryd.ntmps27
  go_wp2_with fail
  generalize w.alloc (pbO pbTyR (.slice la L.length lc) (.slice ca C.length cc) n) = wP at *
  (with_reducible refine hV.out.mono ?_)
  rintro e w1 ⟨rfl, hb1⟩
  clear d0 d1 d2 hV
  go_wp2_with fail
  go_loopw [7, 8] (fun a i wr => RtRel L F wP a i wr) (fun _ i _ => L.length - (RowKit.intOf i).toNat)
  case atStart => exact ⟨0, hF, rfl, by rw [show F + 0 = F from rfl, hst.out]; rfl, hb1⟩
  case round =>
    clear hb1 hst
    obtain ⟨j, hj, rfl, rfl, hB⟩ := hrel
    obtain ⟨c0, c1, c2⟩ := hc.out _ hB
    by_cases hlt : F + j < L.length
    · obtain ⟨b, o, rfl, q0, q1, q2, q3⟩ := hx.out (F + j) hlt _ hB
      have hlI : ((F + j : Nat) : Int) < (L.length : Int) := by omega
      have hk0 : (0 : Int) ≤ ((F + j : Nat) : Int) := by omega
      have hw := hrw.out j
      have hB2 := hB.trans ((below_lt wr (L.getD (F + j) ltZ)).mono hB.size)
      have hq := hidden (fun r (hr : r < L.length) => hx.out r hr _ hB2)
      have hcx := hidden (hc.out _ hB2)
      have hDk := hidden (fun r W (hr : r < L.length) => hD.out r (F + j) W hr hlt)
      obtain ⟨⟨x0, x1, x2, x3⟩, _⟩ := lt_row (heap_alloc_new wr (L.getD (F + j) ltZ |> ltO))
      have hwk : IntKind.i64.wrap (((F + j : Nat) : Int) + 1) = ((F + j + 1 : Nat) : Int) := by rw [IntKind.wrap_i64]; omega
      have hBm := hidden (fun m => below_drewN (m := m) hB2)
      replace hB2 := hidden hB2
      clear hB hx hD hrw hch hro
      rcases hw with ⟨t1, ho⟩ | ⟨t1, t2, ho⟩ | ⟨t1, t2, ho, ho'⟩ | ⟨t1, t2, r, hrk, ho, ho'⟩
      · replace ho := hidden ho
        clear hDk hq hcx
        generalize hxx : L.getD (F + j) ltZ = x at *
        clear hxx
        obtain ⟨xu, xv, xc, xg⟩ := x
        simp only at t1 q0 q1 q2 q3 x0 x1 x2 x3
        go_wp2_with fail
        go_quiet (fail)
        go_wp2
        go_roundw
        case rel => exact ⟨j + 1, by omega, by first | rfl | go_num, by rw [show F + (j + 1) = F + j + 1 from rfl, ho.out], hBm.out _⟩
        case measure => simp [RowKit.intOf]; omega
      · replace ho := hidden ho
        clear hDk hq hcx
        generalize hxx : L.getD (F + j) ltZ = x at *
        clear hxx
        obtain ⟨xu, xv, xc, xg⟩ := x
        simp only at t1 t2 q0 q1 q2 q3 x0 x1 x2 x3
        go_wp2_with fail
        go_quiet (fail)
        go_wp2
        go_roundw
        case rel => exact ⟨j + 1, by omega, by first | rfl | go_num, by rw [show F + (j + 1) = F + j + 1 from rfl, ho.out], hBm.out _⟩
        case measure => simp [RowKit.intOf]; omega
      · replace ho' := hidden ho'
        rw [ho]
        clear hDk hq hcx ho
        generalize hxx : L.getD (F + j) ltZ = x at *
        clear hxx
        obtain ⟨xu, xv, xc, xg⟩ := x
        simp only at t1 t2 q0 q1 q2 q3 x0 x1 x2 x3
        simp only [rtI]
        go_wp2_with fail
        go_quiet (fail)
        go_wp2
        go_roundw
        case rel => exact ⟨j + 1, by omega, by first | rfl | go_num, by rw [show F + (j + 1) = F + j + 1 from rfl, ho'.out]; rfl, hBm.out _⟩
        case measure => simp [RowKit.intOf]; omega
      · have hrl : r < L.length := by omega
        obtain ⟨_, _, e, y0, y1, y2, y3⟩ := hq.out r hrl
        simp only [Option.some.injEq, Addr.mk.injEq, and_true] at e
        obtain ⟨rfl, rfl⟩ := e
        have hDr := hidden (fun W => hDk.out r W hrl)
        have hrI : (r : Int) < (L.length : Int) := by omega
        have hr0 : (0 : Int) ≤ (r : Int) := by omega
        have hrn : decide ((r : Int) < 0) = false := decide_eq_false (by omega)
        obtain ⟨e0, e1, e2⟩ := hcx.out
        have hs0 := hidden (show RtS wP w.heap.size (.slice (some ⟨b, o, none⟩) L.length lc) b (o + r * 4) (L.getD r ltZ) wr.heap.size (L.getD (F + j) ltZ) (wr.alloc (ltO (L.getD (F + j) ltZ))) from ⟨e0, ⟨y0, y1, y2, y3⟩, ⟨x0, x1, x2, x3⟩, hB2.out⟩)
        replace ho' := hidden ho'
        have hor := hidden ho
        rw [ho]
        simp only [rtI]
        have hways : ∃ B : Bool, dear (L.getD r ltZ) (L.getD (F + j) ltZ) = B := ⟨_, rfl⟩
        obtain ⟨B, hdB⟩ := hways
        rw [hdB] at hDr ho'
        clear hDk hq hcx hdB ho y0 y1 y2 y3 hB2
        generalize hyy : L.getD r ltZ = y at *
        clear hyy
        generalize hxx : L.getD (F + j) ltZ = x at *
        clear hxx
        obtain ⟨xu, xv, xc, xg⟩ := x
        obtain ⟨yu, yv, yc, yg⟩ := y
        simp only at t1 t2 q0 q1 q2 q3 x0 x1 x2 x3
        go_wp2_with fail
        go_region_held3 (fun W => W.cell? ⟨w.heap.size, 0, none⟩ = some (.slice (some ⟨b, o, none⟩) L.length lc) ∧ (W.cell? ⟨b, o + r * 4, none⟩ = some (.int .i64 yu) ∧ W.cell? ⟨b, o + r * 4 + 1, none⟩ = some (.int .i64 yv) ∧ W.cell? ⟨b, o + r * 4 + 2, none⟩ = some (.int .i64 yc) ∧ W.cell? ⟨b, o + r * 4 + 3, none⟩ = some (.int .i64 yg)) ∧
          (W.cell? ⟨wr.heap.size, 0, none⟩ = some (.int .i64 xu) ∧ W.cell? ⟨wr.heap.size, 1, none⟩ = some (.int .i64 xv) ∧ W.cell? ⟨wr.heap.size, 2, none⟩ = some (.int .i64 xc) ∧ W.cell? ⟨wr.heap.size, 3, none⟩ = some (.int .i64 xg)) ∧ Below wP.heap.size wP W)
          ((first | with_reducible exact rtS_drew hs0.out | with_reducible assumption | with_reducible exact rtS_next (y := ⟨yu, yv, yc, yg⟩) (z := ⟨xu, xv, xc, xg⟩) (by assumption) (by assumption)))
          ((go_at_call 47; (with_reducible refine (hDr.out _).mono ?_); rintro r w5 ⟨rfl, hb5⟩))
        all_goals
          rename_i hh
          have hB5 := hidden hh.2.2.2
          clear hh hs0 hDr
          cases B
          · go_wp2
            go_roundw
            case rel => exact ⟨j + 1, by omega, by first | rfl | go_num, by rw [show F + (j + 1) = F + j + 1 from rfl, (ho'.out.resolve_left (by simp)).2, hor.out]; rfl, hB5.out⟩
            case measure => simp [RowKit.intOf]; omega
          · go_wp2
            go_roundw
            case rel => exact ⟨j + 1, by omega, by first | rfl | go_num, by rw [show F + (j + 1) = F + j + 1 from rfl, (ho'.out.resolve_right (by simp)).2]; rfl, hB5.out⟩
            case measure => simp [RowKit.intOf]; omega
    · have hkl : F + j = L.length := by omega
      rw [hkl]
      have hbd := hidden (hbx.out _ hB)
      have hbm := hidden (fun m => below_drewN (m := m) hbd.out)
      cases hor : rtTo L F L.length with
      | none =>
        have e1 := hidden (show (0 : Int) = (chL L F).c by rw [hch.out, hor]; rfl)
        have e2 := hidden (show (0 : Int) = (chL L F).v by rw [hch.out, hor]; rfl)
        have e3 := hidden (show false = (rtTo L F L.length).isSome by rw [hor]; rfl)
        simp only [rtI]
        clear hx hD hrw hch hro hB hc hbx hor
        go_wp2
        go_ret3
        exact ⟨ret_iib e1.out e2.out e3.out, hbd.out⟩
      | some r =>
        have hrl : r < L.length := (hro.out.2 r hor).2.1
        obtain ⟨b, o, rfl, q0, q1, q2, q3⟩ := hx.out r hrl _ hB
        have hrI : (r : Int) < (L.length : Int) := by omega
        have hr0 : (0 : Int) ≤ (r : Int) := by omega
        have hrn : decide ((r : Int) < 0) = false := decide_eq_false (by omega)
        have e1 := hidden (show (L.getD r ltZ).c = (chL L F).c by rw [hch.out, hor]; rfl)
        have e2 := hidden (show (L.getD r ltZ).v = (chL L F).v by rw [hch.out, hor]; rfl)
        have e3 := hidden (show true = (rtTo L F L.length).isSome by rw [hor]; rfl)
        simp only [rtI]
        clear hx hD hrw hch hro hB hc hbx hor
        generalize hxx : L.getD r ltZ = x at *
        clear hxx
        obtain ⟨xu, xv, xc, xg⟩ := x
        simp only at q0 q1 q2 q3
        go_wp2_with fail
        go_region
        all_goals
          go_wp2_with fail
          go_ret3
          exact ⟨ret_iib e1.out e2.out e3.out, by first | exact hbd.out.drew | exact hbm.out _⟩
def rlV (L : List Lt) (C : List Int) (n : Int) (F : Nat) (left : Int) : Int := if OkP L C n then lsV L F left else 0
def rlB (L : List Lt) (C : List Int) (n : Int) (F : Nat) (left : Int) : Bool := if OkP L C n then lsB L F left else false
set_option maxRecDepth 100000 in
set_option maxHeartbeats 6400000 in
theorem r18Least_any (lv cv : Value) (L : List Lt) (C : List Int) (n : Int) (F : Nat) (left : Int) (w : World) (h : PbR w lv cv L C) (hF : F ≤ L.length) (h0 : -9223372036854775808 ≤ left) (h1 : left ≤ 9223372036854775807) :
    Calls Tryd.prog 13 #[pbA lv cv n, .int .i64 (F : Int), .int .i64 left] w fun e w' => e = .returned (.tuple #[.int .i64 (rlV L C n F left), .bool (rlB L C n F left)]) ∧ Below w.heap.size w w' := by
  have hb0 := below_pb w pbTyR lv cv n
  have hpb := pbAt_new w pbTyR lv cv n
  have hbx := hidden (fun W (hW : Below (w.alloc (pbO pbTyR lv cv n)).heap.size (w.alloc (pbO pbTyR lv cv n)) W) => hb0.trans (hW.mono hb0.size))
  have hc := hidden (fun W (hW : Below (w.alloc (pbO pbTyR lv cv n)).heap.size (w.alloc (pbO pbTyR lv cv n)) W) => (hpb.below hW (Nat.le_refl _)).cells)
  have hV := hidden (r18Valid_any lv cv L C n _ (h.below (hbx.out _ (Below.refl _ _)) (Nat.le_refl _)))
  have hRt := hidden (fun W hW hok => r18Rate_any lv cv L C n F W (h.below (hbx.out W hW) (Nat.le_refl _)) hok hF)
  obtain ⟨d0, d1, d2⟩ := hc.out _ (Below.refl _ _)
  have hF0 : (0 : Int) ≤ (F : Int) := by omega
  have hFl : (F : Int) ≤ (L.length : Int) := by omega
  unfold rlV rlB
  by_cases hok : OkP L C n
  · rw [if_pos hok, if_pos hok]
    rw [pbC_ok hok] at hV
    have hRt1 := hidden (fun W hW => hRt.out W hW hok)
    have hch := chL_rate hok hF
    have hchb : ltBig (chL L F) := chT_big (L.drop F) (fun x hx => h.big x (List.mem_of_mem_drop hx)) _ (Nat.le_refl _)
    have hD := hidden (fun W => refDiv_any left (chL L F).c (chL L F).v true W h0 h1 hchb.2.2.1.1 hchb.2.2.1.2 hchb.2.1.2)
    obtain ⟨la, lc, rfl⟩ := row_slice h.lots
    obtain ⟨ca, cc, rfl⟩ := reads_slice h.caps
    unfold lsV lsB
    clear h hb0 hpb hok hRt h0 h1 hF hchb
    by_cases hl : left ≤ 0
    · rw [if_pos hl, if_pos hl]
      clear hD hRt1 hch
      go_enter Tryd.func13, Tryd.ntmps13
      go_wp2_with fail
      (with_reducible refine hV.out.mono ?_)
      rintro e w1 ⟨rfl, hb1⟩
      obtain ⟨c0, c1, c2⟩ := hc.out _ hb1
      have hend := hidden (hbx.out _ hb1)
      clear d0 d1 d2 hV hb1 hc hbx
      go_wp2
      go_ret2
      exact ⟨rfl, hend.out⟩
    · rw [if_neg hl, if_neg hl]
      cases hro : rtOf L F with
      | none =>
        have e : chL L F = ltZ := by rw [hch, hro]; rfl
        rw [hro, e] at hRt1
        rw [e]
        have e1 : divAns left ltZ.c ltZ.v true = 0 := rfl
        have e2 : divOk left ltZ.c ltZ.v true = false := rfl
        rw [e1, e2]
        simp only [ltZ, Option.isSome_none] at hRt1
        clear hD hch hro e e1 e2
        go_enter Tryd.func13, Tryd.ntmps13
        go_wp2_with fail
        (with_reducible refine hV.out.mono ?_)
        rintro e w1 ⟨rfl, hb1⟩
        clear d0 d1 d2 hV
        obtain ⟨c0, c1, c2⟩ := hc.out _ hb1
        have hR2 := hidden (hRt1.out _ hb1)
        replace hb1 := hidden hb1
        clear hRt1
        go_wp2_with fail
        (with_reducible refine hR2.out.mono ?_)
        rintro e w2 ⟨rfl, hb2⟩
        have hend := hidden (hbx.out _ (hb1.out.trans (hb2.mono hb1.out.size)))
        clear c0 c1 c2 hR2 hb1 hb2 hc hbx
        go_wp2
        go_ret2
        exact ⟨rfl, hend.out⟩
      | some r =>
        rw [hro] at hRt1
        simp only [Option.isSome_some] at hRt1
        clear hch hro
        generalize chL L F = y at *
        obtain ⟨yu, yv, yc, yg⟩ := y
        simp only at hD hRt1 ⊢
        generalize divOk left yc yv true = db at *
        generalize divAns left yc yv true = dv at *
        go_enter Tryd.func13, Tryd.ntmps13
        go_wp2_with fail
        (with_reducible refine hV.out.mono ?_)
        rintro e w1 ⟨rfl, hb1⟩
        clear d0 d1 d2 hV
        obtain ⟨c0, c1, c2⟩ := hc.out _ hb1
        have hR2 := hidden (hRt1.out _ hb1)
        replace hb1 := hidden hb1
        clear hRt1
        go_wp2_with fail
        (with_reducible refine hR2.out.mono ?_)
        rintro e w2 ⟨rfl, hb2⟩
        have hend := hidden (hbx.out _ (hb1.out.trans (hb2.mono hb1.out.size)))
        clear c0 c1 c2 hR2 hb1 hb2 hc hbx
        go_wp2_with fail
        (with_reducible refine (hD.out _).mono ?_)
        rintro e w3 ⟨rfl, rfl⟩
        clear hD
        go_wp2
        go_ret2
        exact ⟨rfl, hend.out⟩
  · rw [if_neg hok, if_neg hok]
    have hp : (pbC L C n == 0) = false := by
      rw [beq_eq_false_iff_ne]
      exact fun q => hok (pbC_iff.1 q)
    have hp2 : (pbC L C n != 0) = true := by rw [bne, hp]; rfl
    obtain ⟨la, lc, rfl⟩ := row_slice h.lots
    obtain ⟨ca, cc, rfl⟩ := reads_slice h.caps
    clear h hb0 hpb hok hRt h0 h1 hF
    generalize pbC L C n = pc at *
    go_enter Tryd.func13, Tryd.ntmps13
    go_wp2_with fail
    (with_reducible refine hV.out.mono ?_)
    rintro e w1 ⟨rfl, hb1⟩
    obtain ⟨c0, c1, c2⟩ := hc.out _ hb1
    have hend := hidden (hbx.out _ hb1)
    clear d0 d1 d2 hV hb1 hc hbx
    go_wp2
    go_ret2
    exact ⟨rfl, hend.out⟩
end Go.Proofs.YtmihpgccdknhfaaDoor
