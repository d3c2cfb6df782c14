import Derived.Test.YtghkmagofadkfaaDoorCapsRight
import Derived.Test.YtghkmagofadkfaaDoorCapsDo
import Derived.Test.YtghkmagofadkfaaDoorLaidOn
namespace Go.Proofs.YtghkmagofadkfaaDoor
open Go.RowKit
set_option linter.unusedVariables false

def OrRel1 (l : List CpDo) (g : Nat) (w0 : World) (i : Value) (w : World) : Prop :=
  ∃ k : Nat, k ≤ l.length ∧ i = .int .i64 (k : Int) ∧ CpAt w w0.heap.size g k (capT (l.take k)) ∧ Below w0.heap.size w0 w
theorem emptyC (w : World) : (Instr.buildSlice 23 0 #[]).run Tryd.prog w = .ok (.slice (some ⟨w.heap.size, 0, none⟩) 0 0) (w.alloc (.cells #[] 58)) := by kernel_rfl
/-- a line in two. -/
abbrev hfA (c m i v : Int) : Ln := ⟨c, m, i, v / 2⟩
abbrev hfB (c m i v : Int) : Ln := ⟨c, m, i, v - v / 2⟩
theorem hf_ok {c m i v : Int} (h : lnOk ⟨c, m, i, v⟩) : lnOk (hfA c m i v) ∧ lnOk (hfB c m i v) := by
  unfold lnOk at h ⊢
  simp only at h ⊢
  omega
theorem turn_s1 (M : List Ln) (K : Nat) (c m i : Int) : s1 (M.drop K ++ M.take K) c m i = s1 M c m i := by
  have e : s1 M c m i = s1 (M.take K) c m i + s1 (M.drop K) c m i := by rw [← s1_app, List.take_append_drop]
  rw [s1_app]
  omega
theorem split_s1 (M : List Ln) (K : Nat) (hK : K < M.length) {a b d v : Int} (he : M.getD K lnZ = ⟨a, b, d, v⟩) (c m i : Int) : s1 (M.take K ++ M.drop (K + 1) ++ [hfA a b d v, hfB a b d v]) c m i = s1 M c m i := by
  have e : s1 M c m i = s1 (M.take K ++ M.getD K lnZ :: M.drop (K + 1)) c m i := by rw [← split_L M K hK]
  rw [e, he, s1_app, s1_app, s1_app]
  simp only [s1, hitL]
  split
  · omega
  · omega
theorem split_tot (M : List Ln) (K : Nat) (hK : K < M.length) {a b d v : Int} (he : M.getD K lnZ = ⟨a, b, d, v⟩) : totL (M.take K ++ M.drop (K + 1) ++ [hfA a b d v, hfB a b d v]) = totL M := by
  have e : totL M = totL (M.take K ++ M.getD K lnZ :: M.drop (K + 1)) := by rw [← split_L M K hK]
  rw [e, he, totL_app, totL_app, totL_app]
  simp only [totL]
  omega
theorem turn_tot (M : List Ln) (K : Nat) : totL (M.drop K ++ M.take K) = totL M := by
  have e : totL M = totL (M.take K) + totL (M.drop K) := by rw [← totL_app, List.take_append_drop]
  rw [totL_app]
  omega
set_option maxRecDepth 100000 in
set_option maxHeartbeats 12800000 in
theorem walk_capsOrder (v : Value) (l : List CpDo) (u : Value) (m : List Ln) (by_ : Int) (A : Nat → Addr) (w : World) (hr : Row cpDoV 3 w v l) (hl : ∀ z ∈ l, CpDoBig z) (hrm : Row lnV 4 w u m) (hm : ∀ z ∈ m, lnIn z) (y0 : -9223372036854775808 ≤ by_) (y1 : by_ ≤ 9223372036854775807) (hS : SentsOn [2, 3] w A) :
    Calls Tryd.prog 4 #[v, u, .int .i64 by_] w fun r w' => r = .returned (.bool true) ∧ Below w.heap.size w w' := by
  obtain ⟨va, vc, rfl⟩ := row_slice hr
  obtain ⟨ua, uc, rfl⟩ := row_slice hrm
  have hE := hidden hS.on
  have hF := hidden (law16_first A w hS.on)
  have hways : (20 : Int) < (l.length : Int) ∨ (¬ (20 : Int) < (l.length : Int) ∧ (20 : Int) < (m.length : Int)) ∨ (¬ (20 : Int) < (l.length : Int) ∧ ¬ (20 : Int) < (m.length : Int) ∧ m.length = 0) ∨ (l.length ≤ 20 ∧ m.length ≤ 20 ∧ 1 ≤ m.length) := by omega
  rcases hways with t1 | ⟨t1, t2⟩ | ⟨t1, t2, t3⟩ | ⟨t1, t2, t3⟩
  iterate 3
    · clear hr hl hrm hm hS hE
      go_enter Tryd.func4, Tryd.ntmps4
      go_wp2_with fail
      refine hF.out.mono ?_
      rintro r w1 ⟨rfl, hb⟩
      replace hb := hidden hb
      go_wp2
      go_ret
      exact ⟨rfl, hb.out⟩
  · have g1 : ¬ (20 : Int) < (l.length : Int) := by omega
    have g2 : ¬ (20 : Int) < (m.length : Int) := by omega
    have g3 : ((m.length : Int) == 0) = false := by rw [beq_eq_false_iff_ne]; omega
    have hx := hidden (fun k hk W (h2 : Below w.heap.size w W) => rowC_at (hr.below cpDoV_len h2 (Nat.le_refl _)) k hk)
    have hbig := hidden hl
    have hri := hidden (fun W (h2 : Below w.heap.size w W) => right_any W _ m (hrm.below lnV_len h2 (Nat.le_refl _)) (by omega) hm)
    clear hr hl hrm hm hS
    go_enter Tryd.func4, Tryd.ntmps4
    go_wp2_with fail
    refine hF.out.mono ?_
    rintro r w1 ⟨rfl, hb⟩
    obtain ⟨hn1, hbn⟩ := lnew16 hb
    have hn := hidden hn1
    have hb2 := hidden hbn
    have hw1 := hidden hb.size
    clear hb hF hn1 hbn
    go_wp2_with fail
    go_loopw [9] (fun i wr => OrRel1 l w1.heap.size w i wr) (fun i _ => l.length - (RowKit.intOf i).toNat)
    case atStart => exact ⟨0, Nat.zero_le _, rfl, hn.out, hb2.out⟩
    case round =>
      clear hn hb2
      obtain ⟨k, hk, rfl, hL, hb⟩ := hrel
      by_cases hlt : k < l.length
      · obtain ⟨b, o, rfl, _⟩ := hx.out k hlt _ hb
        have hq := hidden (fun W (h2 : Below w.heap.size w W) => show ThreeAt W b (o + k * 3) (l.getD k cpZ) by
          obtain ⟨b', o', e, q⟩ := hx.out k hlt _ h2
          simp only [Option.some.injEq, Addr.mk.injEq, and_true] at e
          obtain ⟨rfl, rfl⟩ := e
          exact q)
        have hlI : (k : Int) < (l.length : Int) := by omega
        have htk := hidden (capT_snoc l k hlt)
        generalize l.getD k cpZ = e at *
        obtain ⟨c, d, x⟩ := e
        have hq' := hidden (fun W (h : Below w.heap.size w W) => show DoCS w b (o + k * 3) c d x W from ⟨hq.out W h, h⟩)
        have hk6 : k < 1000000 := by omega
        have hSet := hidden (fun W (hb : Below w.heap.size w W) (hL : CpAt W w.heap.size w1.heap.size k (capT (l.take k))) => lset16 (W := W) hb hL hk6 hE.out (c, d) x)
        have hs0 := hidden (hq'.out _ hb.drew)
        have hL' := hidden (hL.same (w' := wr.drew) fun _ _ => rfl)
        clear hq hx hL hb
        go_wp2_with fail
        first | (go_region_held3 (fun W => (W.cell? ⟨b, o + k * 3, none⟩ = some (.int .i64 c) ∧ W.cell? ⟨b, o + k * 3 + 1, none⟩ = some (.int .i64 d) ∧ W.cell? ⟨b, o + k * 3 + 2, none⟩ = some (.int .i64 x)) ∧ Below w.heap.size w W)
          ((first | exact hs0.out | assumption | exact hq'.out _ hb5))
          ((go_at_call 11; (with_reducible refine (hSet.out _ hs0.out.2 hL'.out).mono ?_); rintro e' w' ⟨rfl, hL5, hb5, hk5⟩))) | fail
        replace hL5 := hidden hL5
        replace hb5 := hidden hb5
        clear hk5 hs0 hL' hSet hq'
        go_wp2
        go_roundw
        case rel => exact ⟨k + 1, hlt, by go_num, by rw [htk.out]; exact hL5.out, hb5.out⟩
        case measure => simp [RowKit.intOf]; omega
      · obtain rfl : k = l.length := by omega
        rw [List.take_length] at hL
        have hRi := hidden (hri.out _ hb)
        replace hL := hidden hL
        replace hb := hidden hb
        clear hx hri hbig
        generalize capT l = T at *
        go_wp2_with fail
        (with_reducible refine hRi.out.mono ?_)
        rintro r w5 ⟨mv, rfl, hown, hb5⟩
        have hrow := hown.row lnV_len
        have hMok := rgt_all m
        have hMt : totL (m.map rgt) ≤ 19999980 := by have := rgt_tot m; omega
        have hMl : (m.map rgt).length = m.length := List.length_map _
        clear hRi hown
        generalize m.map rgt = M at *
        have hM20 : M.length ≤ 20 := by omega
        have hM1 : 1 ≤ M.length := by omega
        obtain ⟨ma, mc, rfl⟩ := row_slice hrow
        obtain ⟨_, hmc, hmm, _⟩ := row_cap hrow
        have hL5 := hidden (hL.out.below hb5 (Nat.le_refl _))
        replace hb5 := hidden (hb.out.trans (hb5.mono hb.out.size))
        replace hrow := hidden hrow
        obtain ⟨mb, mo, rfl, _⟩ := rowL_at hrow.out 0 hM1
        have hxM := hidden (fun k hk => rowL_at hrow.out k hk)
        replace hMok := hidden hMok
        have hMtH := hidden hMt
        clear hL hb hMl t1 t2 t3 g3
        obtain ⟨K, hK⟩ : ∃ K : Nat, by_ % (M.length : Int) = (K : Int) := ⟨(by_ % (M.length : Int)).toNat, by have := Int.emod_nonneg by_ (show (M.length : Int) ≠ 0 by omega); omega⟩
        have hKM : K < M.length := by have := Int.emod_lt_of_pos by_ (show 0 < (M.length : Int) by omega); omega
        have hN := hidden (number_any by_ (M.length : Int) w5 y0 y1 (by omega) (by omega))
        rw [hK] at hN
        have kb := emptyC
        have hkc : ¬ mc = K := by omega
        have hk3 : (0 : Int) ≤ (K : Int) := by omega
        have hk4 : (K : Int) ≤ (M.length : Int) := by omega
        have hk5 : (K : Int) ≤ (mc : Int) := by omega
        clear hxM y0 y1
        go_wp2_with fail
        (with_reducible refine hN.out.mono ?_)
        rintro r w6 ⟨rfl, rfl⟩
        clear hN
        have hbd := hidden (Below.refl w5.heap.size w5).drew
        go_wp2_with fail
        first | (go_region_held3 (fun w' => Below w5.heap.size w5 w')
          ((first | exact hbd.out | exact hbd.out.alloc (Nat.le_refl _) _ | assumption | exact Below.trans (by assumption) hbx1 | exact Below.trans (by assumption) hbx2))
          ((first
            | (refine step_appR (by rfl) _ _ _ (by rfl) lnV_len lnV_one (by decide) 58 Tryd.underlying23 infoLn (by rfl) (by decide) w5.heap.size _ ([] : List Ln) (by rfl) (World.ownsRow_made _ #[] 0 (Nat.le_refl _) (by decide) (by rfl)) (by rfl) (row_drop (k := K) (m := M.length - K) (c' := mc - K) lnV_len (hrow.out.below lnV_len (by assumption) (Nat.le_refl _)) (by omega) (by omega) (by omega)) (by simp) (by simp; omega) (by simp) ?_; intro v1 w7 hown1 hbx1)
            | (refine step_appR (by rfl) _ _ _ (by rfl) lnV_len lnV_one (by decide) 58 Tryd.underlying23 infoLn (by rfl) (by decide) w5.heap.size v1 _ (by rfl) hown1 (by rfl) (row_take (k := K) lnV_len (hrow.out.below lnV_len (by assumption) (Nat.le_refl _)) (by omega)) (by simp; omega) (by simp; omega) (Below.size (by assumption)) ?_; intro v2 w8 hown2 hbx2)))) | fail
        have hB8 : Below w5.heap.size w5 w8 := by assumption
        have hT8 := hidden (show Row lnV 4 w8 v2 (M.drop K ++ M.take K) from hown2.row lnV_len)
        have hrow8 := hidden (hrow.out.below lnV_len hB8 (Nat.le_refl _))
        have hL8 := hidden (hL5.out.below hB8 (Nat.le_refl _))
        have hb8 := hidden (hb5.out.trans (hB8.mono hb5.out.size))
        obtain ⟨b', o', eb, q0, q1, q2, q3⟩ := rowL_at hrow8.out K hKM
        simp only [Option.some.injEq, Addr.mk.injEq, and_true] at eb
        obtain ⟨rfl, rfl⟩ := eb
        have hxo := hMok.out _ (getL_mem hKM)
        obtain ⟨X, hX⟩ : ∃ X, M.getD K lnZ = X := ⟨_, rfl⟩
        rw [hX] at q0 q1 q2 q3 hxo
        obtain ⟨xa, xb, xd, y⟩ := X
        simp only at q0 q1 q2 q3
        have hyb := hxo.2.2.2
        simp only at hyb
        have e0 : ∀ o : Obj, (w8.alloc o).cell? ⟨mb, mo + K * 4, none⟩ = some (.int .i64 xa) := fun o => by rw [World.cell?_alloc_lt _ _ _ (World.block_lt_of_cell? w8 _ q0)]; exact q0
        have e1 : ∀ o : Obj, (w8.alloc o).cell? ⟨mb, mo + K * 4 + 1, none⟩ = some (.int .i64 xb) := fun o => by rw [World.cell?_alloc_lt _ _ _ (World.block_lt_of_cell? w8 _ q1)]; exact q1
        have e2 : ∀ o : Obj, (w8.alloc o).cell? ⟨mb, mo + K * 4 + 2, none⟩ = some (.int .i64 xd) := fun o => by rw [World.cell?_alloc_lt _ _ _ (World.block_lt_of_cell? w8 _ q2)]; exact q2
        have e3 : ∀ o : Obj, (w8.alloc o).cell? ⟨mb, mo + K * 4 + 3, none⟩ = some (.int .i64 y) := fun o => by rw [World.cell?_alloc_lt _ _ _ (World.block_lt_of_cell? w8 _ q3)]; exact q3
        have e4 : ∀ o : Obj, ((w8.alloc (.cells #[.int .i64 xa, .int .i64 xb, .int .i64 xd, .int .i64 (y / 2)] 58)).alloc o).cell? ⟨w8.heap.size, 3, none⟩ = some (.int .i64 (y / 2)) := fun o => by
          rw [World.cell?_alloc_lt _ _ _ (by simp), cell_of_row _ _ _ _ _ _ (heap_alloc_new w8 _)]; rfl
        have hX' := hidden hX
        have hxo' := hidden hxo
        clear hown1 hown2 hbx1 hbx2 hbd hB8 hrow hL5 hb5 hX hxo
        go_wp2_with fail
        have hW9 : Below w8.heap.size w8 ((w8.alloc (lnO 58 (hfA xa xb xd y))).alloc (lnO 58 (hfB xa xb xd y))) := ((Below.refl _ w8).alloc (Nat.le_refl _) _).alloc (by simp) _
        have hA9 : ((w8.alloc (lnO 58 (hfA xa xb xd y))).alloc (lnO 58 (hfB xa xb xd y))).heap[w8.heap.size]? = some (lnO 58 (hfA xa xb xd y)) := (heap_alloc_old _ _ (by simp)).trans (heap_alloc_new w8 _)
        have hB9 : ((w8.alloc (lnO 58 (hfA xa xb xd y))).alloc (lnO 58 (hfB xa xb xd y))).heap[w8.heap.size + 1]? = some (lnO 58 (hfB xa xb xd y)) := by
          have := heap_alloc_new (w8.alloc (lnO 58 (hfA xa xb xd y))) (lnO 58 (hfB xa xb xd y))
          simpa only [World.size_alloc] using this
        change Code.wp _ _ _ _ ((w8.alloc (lnO 58 (hfA xa xb xd y))).alloc (lnO 58 (hfB xa xb xd y)))
        clear q0 q1 q2 q3 e0 e1 e2 e3 e4
        generalize (w8.alloc (lnO 58 (hfA xa xb xd y))).alloc (lnO 58 (hfB xa xb xd y)) = w9 at *
        have hT9 := hidden (hT8.out.below lnV_len hW9 (Nat.le_refl _))
        have hrow9 := hidden (hrow8.out.below lnV_len hW9 (Nat.le_refl _))
        have hL9 := hidden (hL8.out.below hW9 (Nat.le_refl _))
        have hb9 := hidden (hb8.out.trans (hW9.mono hb8.out.size))
        have hk6 : (0 : Int) ≤ (K : Int) + 1 := by omega
        have hk7 : (K : Int) + 1 ≤ (M.length : Int) := by omega
        have hk8 : (K : Int) + 1 ≤ (mc : Int) := by omega
        have hwk : IntKind.i64.wrap ((K : Int) + 1) = (K : Int) + 1 := by rw [IntKind.wrap_i64]; omega
        have hways : (mc = K + 1 ∧ M.length = K + 1 ∧ ∀ W, Below w9.heap.size w9 W → Row lnV 4 W (.slice (some ⟨mb, mo, none⟩) 0 0) (M.drop (K + 1))) ∨ (¬ mc = K + 1 ∧ ∀ W, Below w9.heap.size w9 W → Row lnV 4 W (.slice (some ⟨mb, mo + (K + 1) * 4, none⟩) (M.length - (K + 1)) (mc - (K + 1))) (M.drop (K + 1))) := by
          by_cases hc1 : mc = K + 1
          · have hML : M.length = K + 1 := by omega
            refine .inl ⟨hc1, hML, fun W hW => ?_⟩
            have h := (row_from lnV_len (hrow9.out.below lnV_len hW (Nat.le_refl _)) (show K + 1 ≤ M.length by omega)).1 hc1
            rw [show M.length - (K + 1) = 0 by omega, show mc - (K + 1) = 0 by omega] at h
            exact h
          · exact .inr ⟨hc1, fun W hW => (row_from lnV_len (hrow9.out.below lnV_len hW (Nat.le_refl _)) (show K + 1 ≤ M.length by omega)).2 _ rfl⟩
        have hbd9 := hidden (Below.refl w9.heap.size w9).drew
        clear hT8 hrow8 hL8 hb8 hW9
        replace hA9 := hidden hA9
        replace hB9 := hidden hB9
        rcases hways with ⟨hc1, hML, hrD⟩ | ⟨hc1, hrD⟩
        · subst hc1
          replace hrD := hidden hrD
          have hk9 : (K : Int) ≤ (K : Int) + 1 := by omega
          have hk10 : (K : Int) ≤ ((K + 1 : Nat) : Int) := by omega
          have hk11 : (K : Int) + 1 ≤ ((K + 1 : Nat) : Int) := by omega
          have hdl := hidden (show (M.drop (K + 1)).length ≤ 1000000 by rw [List.length_drop]; omega)
          replace hML := hidden hML
          first | (go_region_held3 (fun w' => Below w9.heap.size w9 w')
            ((first | exact hbd9.out | exact hbd9.out.alloc (Nat.le_refl _) _ | assumption | exact Below.trans (by assumption) hbx1 | exact Below.trans (by assumption) hbx2))
            ((first
              | (refine step_appR (by rfl) _ _ _ (by rfl) lnV_len lnV_one (by decide) 58 Tryd.underlying23 infoLn (by rfl) (by decide) w9.heap.size _ ([] : List Ln) (by rfl) (World.ownsRow_made _ #[] 0 (Nat.le_refl _) (by decide) (by rfl)) (by rfl) (row_take (k := K) lnV_len (hrow9.out.below lnV_len (by assumption) (Nat.le_refl _)) (by omega)) (by simp) (by simp; omega) (by simp) ?_; intro v3 w10 hown1 hbx1)
              | (refine step_appR (by rfl) _ _ _ (by rfl) lnV_len lnV_one (by decide) 58 Tryd.underlying23 infoLn (by rfl) (by decide) w9.heap.size v3 _ (by rfl) hown1 (by rfl) (hrD.out _ (by assumption)) (by simp; omega) hdl.out (Below.size (by assumption)) ?_; intro v4 w11 hown2 hbx2)))) | fail
          have hB11 : Below w9.heap.size w9 w11 := by assumption
          have hown := hidden (show OwnLn w9.heap.size w11 v4 (M.take K ++ M.drop (K + 1)) from hown2)
          obtain ⟨k0, k1, k2, k3⟩ := ln_cells ((hB11.block _ (Array.getElem?_eq_some_iff.1 hA9.out).1).trans hA9.out)
          obtain ⟨j0, j1, j2, j3⟩ := ln_cells ((hB11.block _ (Array.getElem?_eq_some_iff.1 hB9.out).1).trans hB9.out)
          have hlen := hidden (show (M.take K ++ M.drop (K + 1)).length ≤ 1000000 by rw [List.length_append, List.length_take, List.length_drop]; omega)
          have hB := hidden (show w9.heap.size ≤ (w11.alloc (.cells #[.int .i64 xa, .int .i64 xb, .int .i64 xd, .int .i64 (y / 2), .int .i64 xa, .int .i64 xb, .int .i64 xd, .int .i64 (y - y / 2)] 58)).heap.size from Nat.le_trans hB11.size (by simp))
          have hrn := hidden (row_new (w := w11) (e := 58) lnV_len #[.int .i64 xa, .int .i64 xb, .int .i64 xd, .int .i64 (y / 2), .int .i64 xa, .int .i64 xb, .int .i64 xd, .int .i64 (y - y / 2)] [hfA xa xb xd y, hfB xa xb xd y] 2 rfl rfl (by decide))
          have hB11' := hidden hB11
          clear hown1 hown2 hbx1 hbx2 hbd9 hB11 hrD
          go_wp2_with (at_builtin; refine wpList_appR rfl _ _ 23 rfl lnV_len lnV_one (by decide) 58 Tryd.underlying23 infoLn rfl (by decide) w9.heap.size _ (M.take K ++ M.drop (K + 1)) rfl (hown.out.alloc _) (ys := [hfA xa xb xd y, hfB xa xb xd y]) rfl hrn.out hlen.out (by simp) hB.out ?_)
          intro v5 w12 hown5 hb12
          have hbA := (hB11'.out.alloc hB11'.out.size (.cells #[.int .i64 xa, .int .i64 xb, .int .i64 xd, .int .i64 (y / 2), .int .i64 xa, .int .i64 xb, .int .i64 xd, .int .i64 (y - y / 2)] 58)).trans hb12
          have hrow12 := hrow9.out.below lnV_len hbA (Nat.le_refl _)
          have hT12 := hidden (hT9.out.below lnV_len hbA (Nat.le_refl _))
          have hS12 := hidden (hown5.row lnV_len)
          have hL12 := hL9.out.below hbA (Nat.le_refl _)
          have hb13 := hb9.out.trans (hbA.mono hb9.out.size)
          have hs1 := lsum16 hb13 hL12 hE.out hrow12 (by omega) hMok.out (by omega)
          have hok2 : ∀ x ∈ M.drop K ++ M.take K, lnOk x := fun x hx => by
            rcases List.mem_append.1 hx with q | q
            · exact hMok.out x (List.mem_of_mem_drop q)
            · exact hMok.out x (List.mem_of_mem_take q)
          have hok3 : ∀ x ∈ M.take K ++ M.drop (K + 1) ++ [hfA xa xb xd y, hfB xa xb xd y], lnOk x := fun x hx => by
            rcases List.mem_append.1 hx with q | q
            · rcases List.mem_append.1 q with q | q
              · exact hMok.out x (List.mem_of_mem_take q)
              · exact hMok.out x (List.mem_of_mem_drop q)
            · simp only [List.mem_cons, List.not_mem_nil, or_false] at q
              rcases q with rfl | rfl
              · exact (hf_ok hxo'.out).1
              · exact (hf_ok hxo'.out).2
          have hs2 := hidden (fun W (hb : Below w.heap.size w W) (hL : CpAt W w.heap.size w1.heap.size l.length T) (hr : Row lnV 4 W v2 (M.drop K ++ M.take K)) => lsum16 hb hL hE.out hr (by rw [List.length_append, List.length_take, List.length_drop]; omega) hok2 (by rw [turn_tot]; omega))
          have hs3 := hidden (fun W (hb : Below w.heap.size w W) (hL : CpAt W w.heap.size w1.heap.size l.length T) (hr : Row lnV 4 W v5 (M.take K ++ M.drop (K + 1) ++ [hfA xa xb xd y, hfB xa xb xd y])) => lsum16 hb hL hE.out hr (by rw [List.length_append, List.length_append, List.length_take, List.length_drop]; simp; omega) hok3 (by rw [split_tot M K hKM hX'.out]; omega))
          rw [s4_same (T := T) (turn_s1 M K)] at hs2
          rw [s4_same (T := T) (split_s1 M K hKM hX'.out)] at hs3
          generalize s4 T M = a at *
          replace hs1 := hidden hs1
          clear hrow12 hL12 hb13 hown5 hb12 hbA hok2 hok3 k0 k1 k2 k3 j0 j1 j2 j3
          go_wp2_with fail
          (with_reducible refine hs1.out.mono ?_)
          rintro r w13 ⟨rfl, hL13, hb13, hb13'⟩
          have hT13 := hT12.out.below lnV_len hb13' (Nat.le_refl _)
          have hS13 := hidden (hS12.out.below lnV_len hb13' (Nat.le_refl _))
          have hs2' := hidden (hs2.out _ hb13 hL13 hT13)
          clear hs1 hs2 hL13 hb13 hb13' hT13 hT12 hS12
          go_wp2_with fail
          (with_reducible refine hs2'.out.mono ?_)
          rintro r w14 ⟨rfl, hL14, hb14, hb14'⟩
          have hs3' := hidden (hs3.out _ hb14 hL14 (by rw [List.append_assoc]; exact hS13.out.below lnV_len hb14' (Nat.le_refl _)))
          clear hs2' hs3 hL14 hb14 hb14' hS13
          go_wp2_with fail
          (with_reducible refine hs3'.out.mono ?_)
          rintro r w15 ⟨rfl, _, hb15, _⟩
          replace hb15 := hidden hb15
          clear hs3'
          go_wp2
          go_ret
          exact ⟨rfl, hb15.out⟩
        · replace hrD := hidden hrD
          first | (go_region_held3 (fun w' => Below w9.heap.size w9 w')
            ((first | exact hbd9.out | exact hbd9.out.alloc (Nat.le_refl _) _ | assumption | exact Below.trans (by assumption) hbx1 | exact Below.trans (by assumption) hbx2))
            ((first
              | (refine step_appR (by rfl) _ _ _ (by rfl) lnV_len lnV_one (by decide) 58 Tryd.underlying23 infoLn (by rfl) (by decide) w9.heap.size _ ([] : List Ln) (by rfl) (World.ownsRow_made _ #[] 0 (Nat.le_refl _) (by decide) (by rfl)) (by rfl) (row_take (k := K) lnV_len (hrow9.out.below lnV_len (by assumption) (Nat.le_refl _)) (by omega)) (by simp) (by simp; omega) (by simp) ?_; intro v3 w10 hown1 hbx1)
              | (refine step_appR (by rfl) _ _ _ (by rfl) lnV_len lnV_one (by decide) 58 Tryd.underlying23 infoLn (by rfl) (by decide) w9.heap.size v3 _ (by rfl) hown1 (by rfl) (hrD.out _ (by assumption)) (by simp; omega) (by simp; omega) (Below.size (by assumption)) ?_; intro v4 w11 hown2 hbx2)))) | fail
          have hB11 : Below w9.heap.size w9 w11 := by assumption
          have hown := hidden (show OwnLn w9.heap.size w11 v4 (M.take K ++ M.drop (K + 1)) from hown2)
          obtain ⟨k0, k1, k2, k3⟩ := ln_cells ((hB11.block _ (Array.getElem?_eq_some_iff.1 hA9.out).1).trans hA9.out)
          obtain ⟨j0, j1, j2, j3⟩ := ln_cells ((hB11.block _ (Array.getElem?_eq_some_iff.1 hB9.out).1).trans hB9.out)
          have hlen := hidden (show (M.take K ++ M.drop (K + 1)).length ≤ 1000000 by rw [List.length_append, List.length_take, List.length_drop]; omega)
          have hB := hidden (show w9.heap.size ≤ (w11.alloc (.cells #[.int .i64 xa, .int .i64 xb, .int .i64 xd, .int .i64 (y / 2), .int .i64 xa, .int .i64 xb, .int .i64 xd, .int .i64 (y - y / 2)] 58)).heap.size from Nat.le_trans hB11.size (by simp))
          have hrn := hidden (row_new (w := w11) (e := 58) lnV_len #[.int .i64 xa, .int .i64 xb, .int .i64 xd, .int .i64 (y / 2), .int .i64 xa, .int .i64 xb, .int .i64 xd, .int .i64 (y - y / 2)] [hfA xa xb xd y, hfB xa xb xd y] 2 rfl rfl (by decide))
          have hB11' := hidden hB11
          clear hown1 hown2 hbx1 hbx2 hbd9 hB11 hrD
          go_wp2_with (at_builtin; refine wpList_appR rfl _ _ 23 rfl lnV_len lnV_one (by decide) 58 Tryd.underlying23 infoLn rfl (by decide) w9.heap.size _ (M.take K ++ M.drop (K + 1)) rfl (hown.out.alloc _) (ys := [hfA xa xb xd y, hfB xa xb xd y]) rfl hrn.out hlen.out (by simp) hB.out ?_)
          intro v5 w12 hown5 hb12
          have hbA := (hB11'.out.alloc hB11'.out.size (.cells #[.int .i64 xa, .int .i64 xb, .int .i64 xd, .int .i64 (y / 2), .int .i64 xa, .int .i64 xb, .int .i64 xd, .int .i64 (y - y / 2)] 58)).trans hb12
          have hrow12 := hrow9.out.below lnV_len hbA (Nat.le_refl _)
          have hT12 := hidden (hT9.out.below lnV_len hbA (Nat.le_refl _))
          have hS12 := hidden (hown5.row lnV_len)
          have hL12 := hL9.out.below hbA (Nat.le_refl _)
          have hb13 := hb9.out.trans (hbA.mono hb9.out.size)
          have hs1 := lsum16 hb13 hL12 hE.out hrow12 (by omega) hMok.out (by omega)
          have hok2 : ∀ x ∈ M.drop K ++ M.take K, lnOk x := fun x hx => by
            rcases List.mem_append.1 hx with q | q
            · exact hMok.out x (List.mem_of_mem_drop q)
            · exact hMok.out x (List.mem_of_mem_take q)
          have hok3 : ∀ x ∈ M.take K ++ M.drop (K + 1) ++ [hfA xa xb xd y, hfB xa xb xd y], lnOk x := fun x hx => by
            rcases List.mem_append.1 hx with q | q
            · rcases List.mem_append.1 q with q | q
              · exact hMok.out x (List.mem_of_mem_take q)
              · exact hMok.out x (List.mem_of_mem_drop q)
            · simp only [List.mem_cons, List.not_mem_nil, or_false] at q
              rcases q with rfl | rfl
              · exact (hf_ok hxo'.out).1
              · exact (hf_ok hxo'.out).2
          have hs2 := hidden (fun W (hb : Below w.heap.size w W) (hL : CpAt W w.heap.size w1.heap.size l.length T) (hr : Row lnV 4 W v2 (M.drop K ++ M.take K)) => lsum16 hb hL hE.out hr (by rw [List.length_append, List.length_take, List.length_drop]; omega) hok2 (by rw [turn_tot]; omega))
          have hs3 := hidden (fun W (hb : Below w.heap.size w W) (hL : CpAt W w.heap.size w1.heap.size l.length T) (hr : Row lnV 4 W v5 (M.take K ++ M.drop (K + 1) ++ [hfA xa xb xd y, hfB xa xb xd y])) => lsum16 hb hL hE.out hr (by rw [List.length_append, List.length_append, List.length_take, List.length_drop]; simp; omega) hok3 (by rw [split_tot M K hKM hX'.out]; omega))
          rw [s4_same (T := T) (turn_s1 M K)] at hs2
          rw [s4_same (T := T) (split_s1 M K hKM hX'.out)] at hs3
          generalize s4 T M = a at *
          replace hs1 := hidden hs1
          clear hrow12 hL12 hb13 hown5 hb12 hbA hok2 hok3 k0 k1 k2 k3 j0 j1 j2 j3
          go_wp2_with fail
          (with_reducible refine hs1.out.mono ?_)
          rintro r w13 ⟨rfl, hL13, hb13, hb13'⟩
          have hT13 := hT12.out.below lnV_len hb13' (Nat.le_refl _)
          have hS13 := hidden (hS12.out.below lnV_len hb13' (Nat.le_refl _))
          have hs2' := hidden (hs2.out _ hb13 hL13 hT13)
          clear hs1 hs2 hL13 hb13 hb13' hT13 hT12 hS12
          go_wp2_with fail
          (with_reducible refine hs2'.out.mono ?_)
          rintro r w14 ⟨rfl, hL14, hb14, hb14'⟩
          have hs3' := hidden (hs3.out _ hb14 hL14 (by rw [List.append_assoc]; exact hS13.out.below lnV_len hb14' (Nat.le_refl _)))
          clear hs2' hs3 hL14 hb14 hb14' hS13
          go_wp2_with fail
          (with_reducible refine hs3'.out.mono ?_)
          rintro r w15 ⟨rfl, _, hb15, _⟩
          replace hb15 := hidden hb15
          clear hs3'
          go_wp2
          go_ret
          exact ⟨rfl, hb15.out⟩
end Go.Proofs.YtghkmagofadkfaaDoor
