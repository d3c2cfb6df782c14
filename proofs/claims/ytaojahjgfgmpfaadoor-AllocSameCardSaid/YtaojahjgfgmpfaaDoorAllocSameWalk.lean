import Derived.Test.YtaojahjgfgmpfaaDoorAllocTurn
import Derived.Test.YtaojahjgfgmpfaaDoorPbArg
import Derived.Test.YtaojahjgfgmpfaaDoorNumber
import Derived.Test.YtaojahjgfgmpfaaDoorLaidOn
namespace Go.Proofs.YtaojahjgfgmpfaaDoor
open Go Go.RowKit
set_option linter.unusedVariables false

def SmRel1 (len : Nat) (w0 : World) (i : Value) (w : World) : Prop := ∃ k : Nat, k ≤ len ∧ i = .int .i64 (k : Int) ∧ w0 = w
theorem PbAt.frozen20 {w : World} {g : Nat} {t : TypeId} {lv cv : Value} {n : Int} (h : PbAt w g t lv cv n) (o : Nat) : w.frozen? ⟨g, o, none⟩ = false := by
  have := h.row
  simp [World.frozen?, this]
theorem pbAt_set0 {w : World} {g : Nat} {t : TypeId} {lv cv : Value} {n : Int} (h : PbAt w g t lv cv n) (lv' : Value) : PbAt (w.setCell ⟨g, 0, none⟩ lv') g t lv' cv n := ⟨heap_setCell_row h.row lv'⟩
theorem own_set0 {W : World} {base g : Nat} {v : Value} {l : List Lt} (h : OwnR ltV 4 ltTy base W v l) (hg : g < base) (u : Value) : OwnR ltV 4 ltTy base (W.setCell ⟨g, 0, none⟩ u) v l := ownsRow_setCell_below h (a := ⟨g, 0, none⟩) hg u
theorem sm_low {W0 w6 : World} {B : Nat} {v : Value} (ht : Trd (fun k => v.ownBlock = some k) W0 w6) (hv : ∀ k, v.ownBlock = some k → B ≤ k) (hB : B ≤ W0.heap.size) : Below B W0 w6 :=
  ⟨ht.os, ht.tape, ht.output, ht.size, fun i hi => ht.block i (by omega) (fun q => by have := hv i q; omega)⟩
theorem own_empty (W : World) (base g : Nat) (hg : base ≤ g) (h : W.heap[g]? = some (.cells #[] ltTy)) : OwnR ltV 4 ltTy base W (.slice (some ⟨g, 0, none⟩) 0 0) ([] : List Lt) :=
  ⟨by simp, .inr ⟨g, 0, #[], rfl, hg, h, by simp, by decide, by simp, by simp⟩⟩
theorem own_row {W : World} {base : Nat} {v : Value} {l : List Lt} {m : Nat} (h : OwnR ltV 4 ltTy base W v l) (hm : l.length = m) : ∃ a c, v = .slice a m c := by
  obtain ⟨a, c, e⟩ := row_slice (h.row ltV_len)
  exact ⟨a, c, by rw [e, hm]⟩
set_option maxRecDepth 100000 in
set_option maxHeartbeats 25600000 in
theorem walk_allocSame (p : PbX) (a b : Int) (A : Nat → Addr) (w : World) (hp : PbIs w p) (a0 : -9223372036854775808 ≤ a) (a1 : a ≤ 9223372036854775807) (b0 : -9223372036854775808 ≤ b) (b1 : b ≤ 9223372036854775807) (hS : SentsOn [2, 4, 20] w A) :
    Calls Tryd.prog 5 #[pbA p.lv p.cv p.n, .int .i64 a, .int .i64 b] w fun r w' => r = .returned (.bool true) ∧ Below w.heap.size w w' := by
  obtain ⟨lv, cv, L, C, n⟩ := p
  obtain ⟨hpr, hnd⟩ := hp
  simp only at hpr hnd
  have hb0 := below_pb w pbTy lv cv n
  have hpb := pbAt_new w pbTy lv cv n
  have hbx := hidden (fun W (hW : Below (w.alloc (pbO pbTy lv cv n)).heap.size (w.alloc (pbO pbTy lv cv n)) W) => hb0.trans (hW.mono hb0.size))
  have hc := hidden (fun W (hW : Below (w.alloc (pbO pbTy lv cv n)).heap.size (w.alloc (pbO pbTy lv cv n)) W) => (hpb.below hW (Nat.le_refl _)).cells)
  have hE := hidden (fun W (hW : Below (w.alloc (pbO pbTy lv cv n)).heap.size (w.alloc (pbO pbTy lv cv n)) W) => hS.on.below (hbx.out W hW) (Nat.le_refl _))
  have hR := hidden (fun W (hW : Below (w.alloc (pbO pbTy lv cv n)).heap.size (w.alloc (pbO pbTy lv cv n)) W) => hpr.below (hbx.out W hW) (Nat.le_refl _))
  have hF := hidden (law20_first A _ (hE.out _ (Below.refl _ _)))
  have hVa := hidden (fun W hW => ltValid_any A lv cv L C n W (hR.out W hW) ((hE.out W hW).sub (by simp)))
  have hAl := hidden (fun W hW => allBest_any A lv cv L C n W (hR.out W hW) (hE.out W hW))
  have hAq := hidden (fun W hW lv' L' (h' : PbR W lv' cv L' C) => allBest_any A lv' cv L' C n W h' (hE.out W hW))
  unfold BeAt at hAl hAq
  have nA := hidden (fun W (h1 : 1 ≤ L.length) (h8 : L.length ≤ 8) => number_any a (L.length : Int) W a0 a1 (by omega) (by omega))
  have nB := hidden (fun W => number_any b 50 W b0 b1 (by decide) (by decide))
  have hB9 : 0 ≤ b % 50 ∧ b % 50 < 50 := by omega
  obtain ⟨la, lc, rfl⟩ := row_slice hpr.lots
  obtain ⟨ca, cc, rfl⟩ := reads_slice hpr.caps
  have hx := hidden (fun k hk W hW => rowLt_at (hR.out W hW).lots k hk)
  clear hpr hS hb0 hpb a0 a1 b0 b1
  generalize b % 50 = z at *
  obtain ⟨d0, d1, d2⟩ := hc.out _ (Below.refl _ _)
  go_enter Tryd.func5, Tryd.ntmps5
  go_wp2_with fail
  generalize w.alloc (pbO pbTy (.slice la L.length lc) (.slice ca C.length cc) n) = wP at *
  (with_reducible refine hF.out.mono ?_)
  rintro r w1 ⟨rfl, hb1⟩
  obtain ⟨c0, c1, c2⟩ := hc.out _ hb1
  have hV2 := hidden (hVa.out _ hb1)
  replace hb1 := hidden hb1
  clear hF d0 d1 d2 hVa
  by_cases hok : OkP L C n
  · rw [pbC_ok hok, errOf_fine] at hV2
    by_cases h6 : (L.length : Int) ≤ 6
    · have hL8 : 1 ≤ (L.length : Int) ∧ (L.length : Int) ≤ 6 := by have := hok.1.1; omega
      go_wp2_with fail
      (with_reducible refine hV2.out.mono ?_)
      rintro r w2 ⟨rfl, hb2⟩
      replace hb2 := hidden (hb1.out.trans (hb2.mono hb1.out.size))
      obtain ⟨c0, c1, c2⟩ := hc.out _ hb2.out
      clear hV2 hb1
      go_wp2_with fail
      go_loopw [8] (fun i wr => SmRel1 L.length w2 i wr) (fun i _ => L.length - (RowKit.intOf i).toNat)
      case atStart => exact ⟨0, by omega, rfl, rfl⟩
      case round =>
        obtain ⟨k, hk, rfl, rfl⟩ := hrel
        by_cases hlt : k < L.length
        · obtain ⟨b, o, rfl, q0, q1, q2, q3⟩ := hx.out k hlt _ hb2.out
          have hlI : (k : Int) < (L.length : Int) := by omega
          generalize L.getD k ltZ = y at *
          obtain ⟨yu, yv, yc, yg⟩ := y
          simp only at q0 q1 q2 q3
          by_cases hu : 6 < yu
          · have hd : decide (6 < yu) = true := decide_eq_true hu
            have hend := hidden (hbx.out _ hb2.out)
            clear hx hAl hAq nA nB hE hR hc
            go_wp2
            go_ret
            exact ⟨rfl, hend.out⟩
          · have hd : decide (6 < yu) = false := decide_eq_false hu
            clear hx hAl hAq nA nB hE hR
            go_wp2
            go_roundw
            case rel => exact ⟨k + 1, hlt, by go_num, rfl⟩
            case measure => simp [RowKit.intOf]; omega
        · obtain rfl : k = L.length := by omega
          clear hlt hk
          have nA1 := hidden (fun W => nA.out W hok.1.1.1 hok.1.1.2)
          obtain ⟨F, hFe⟩ : ∃ F : Nat, a % (L.length : Int) = (F : Int) := ⟨(a % (L.length : Int)).toNat, by have := Int.emod_nonneg a (show (L.length : Int) ≠ 0 by omega); omega⟩
          have hFl : F < L.length := by have := Int.emod_lt_of_pos a (show 0 < (L.length : Int) by omega); omega
          rw [hFe] at nA1
          clear hFe nA
          have hxok : ltOk C.length ⟨2, 0, z, 0⟩ := by
            have := hok.1.2
            unfold ltOk
            simp
            omega
          have htc := turn_code (P := L.take F) (Q := L.drop F) (x := ⟨2, 0, z, 0⟩) (C := C) (n := n) (bud := 100000) (by rw [List.take_append_drop]; exact hok) (by rw [List.take_append_drop]; omega) hxok rfl (by decide) (by decide)
          have htq := turn_cost (P := L.take F) (Q := L.drop F) (x := ⟨2, 0, z, 0⟩) (C := C) (n := n) (bud := 100000) (by rw [List.take_append_drop]; exact hok) (by rw [List.take_append_drop]; omega) hxok rfl (by decide) (by decide)
          rw [List.take_append_drop] at htc htq
          have hcode := be_code hok (bud := 100000) (by decide) (by decide)
          replace htc := hidden htc
          replace htq := hidden htq
          replace hcode := hidden hcode
          have hbig2 := hidden (show ∀ y ∈ L.drop F ++ L.take F ++ [(⟨2, 0, z, 0⟩ : Lt)], ltBig y from fun y hy => by
            simp only [List.mem_append, List.mem_cons, List.not_mem_nil, or_false] at hy
            rcases hy with (hy | hy) | rfl
            · exact (hR.out _ hb2.out).big y (List.mem_of_mem_drop hy)
            · exact (hR.out _ hb2.out).big y (List.mem_of_mem_take hy)
            · unfold ltBig In64; simp; omega)
          obtain ⟨bl, ol, rfl, _⟩ := hx.out F hFl _ hb2.out
          have hFI : (F : Int) < (L.length : Int) := by omega
          have hFn : F ≤ L.length := by omega
          have hFlc : F ≤ lc := by have := (row_cap (hR.out _ hb2.out).lots).2.1; omega
          have hcap := row_cap (hR.out _ hb2.out).lots
          have hcap2 : L.length ≤ lc := hcap.2.1
          have hcap3 : lc ≤ maxLen := hcap.2.2.1
          unfold maxLen at hcap3
          have hFc : ¬ lc = F := by omega
          have hFcI : (F : Int) < (lc : Int) := by omega
          have hlcI : (L.length : Int) ≤ (lc : Int) := by omega
          clear hcap
          have hlt2 : w.heap.size < w2.heap.size := World.block_lt_of_cell? w2 _ c0
          have hne1 : ¬ w.heap.size = w2.heap.size := by omega
          have hne2 : ¬ w2.heap.size = w.heap.size := by omega
          have c0a : (w2.alloc (pbO pbTy (.slice none 0 0) (.slice ca C.length cc) n)).cell? ⟨w.heap.size, 0, none⟩ = some (.slice (some ⟨bl, ol, none⟩) L.length lc) := Go.Lib.cell?_alloc_some _ c0
          have c0b : ∀ o, ((w2.alloc (pbO pbTy (.slice none 0 0) (.slice ca C.length cc) n)).alloc o).cell? ⟨w.heap.size, 0, none⟩ = some (.slice (some ⟨bl, ol, none⟩) L.length lc) := fun o => Go.Lib.cell?_alloc_some _ c0a
          go_upto_region 13 with (go_at_call 23; (with_reducible refine (nA1.out _).mono ?_); rintro e w' ⟨rfl, rfl⟩)
          have hq0 := pbAt_new w2 pbTy (.slice none 0 0) (.slice ca C.length cc) n
          have hbq := below_pb w2 pbTy (.slice none 0 0) (.slice ca C.length cc) n
          have hsz1 : (w2.alloc (pbO pbTy (.slice none 0 0) (.slice ca C.length cc) n)).heap.size = w2.heap.size + 1 := by simp
          have hnow := hidden (fun W (hW : Below (w2.alloc (pbO pbTy (.slice none 0 0) (.slice ca C.length cc) n)).heap.size (w2.alloc (pbO pbTy (.slice none 0 0) (.slice ca C.length cc) n)) W) =>
            And.intro (hc.out W (hb2.out.trans ((hbq.trans (hW.mono hbq.size)).mono hb2.out.size))).1 (And.intro (hq0.below hW (Nat.le_refl _)) (hR.out W (hb2.out.trans ((hbq.trans (hW.mono hbq.size)).mono hb2.out.size)))))
          have hW0 := hidden (show Below (w2.alloc (pbO pbTy (.slice none 0 0) (.slice ca C.length cc) n)).heap.size (w2.alloc (pbO pbTy (.slice none 0 0) (.slice ca C.length cc) n)) ((w2.alloc (pbO pbTy (.slice none 0 0) (.slice ca C.length cc) n)).alloc (.cells #[] ltTy)).drew from ((Below.refl _ _).alloc (Nat.le_refl _) _).drew)
          have ho0 := hidden (own_empty ((w2.alloc (pbO pbTy (.slice none 0 0) (.slice ca C.length cc) n)).alloc (.cells #[] ltTy)).drew (w2.heap.size + 1) (w2.heap.size + 1) (Nat.le_refl _) (by
            have := heap_alloc_new (w2.alloc (pbO pbTy (.slice none 0 0) (.slice ca C.length cc) n)) (.cells #[] ltTy)
            rw [hsz1] at this
            exact this))
          have hr0 := hidden (row_drop (c' := lc - F) ltV_len (hnow.out _ hW0.out).2.2.lots (show F + (L.length - F) = L.length by omega) (by omega) (by omega))
          have hle1 := hidden (show (L.drop F).length = L.length - F by simp)
          have hle2 := hidden (show (L.drop F ++ L.take F).length = L.length by simp; omega)
          have hLs := hidden hL8
          have hFs := hidden hFl
          have hfin := hidden (fun va7 vc7 w7 (hq : PbAt w7 w2.heap.size pbTy (.slice none 0 0) (.slice ca C.length cc) n) (ho : OwnR ltV 4 ltTy (w2.heap.size + 1) w7 (.slice va7 L.length vc7) (L.drop F ++ L.take F)) (hb : Below (w2.alloc (pbO pbTy (.slice none 0 0) (.slice ca C.length cc) n)).heap.size (w2.alloc (pbO pbTy (.slice none 0 0) (.slice ca C.length cc) n)) w7) =>
            show ∃ va vc, PbAt (w7.setCell ⟨w2.heap.size, 0, none⟩ (.slice va7 L.length vc7)) w2.heap.size pbTy (.slice va L.length vc) (.slice ca C.length cc) n ∧ OwnR ltV 4 ltTy (w2.heap.size + 1) (w7.setCell ⟨w2.heap.size, 0, none⟩ (.slice va7 L.length vc7)) (.slice va L.length vc) (L.drop F ++ L.take F) ∧ Below w2.heap.size w2 (w7.setCell ⟨w2.heap.size, 0, none⟩ (.slice va7 L.length vc7)) from
              ⟨va7, vc7, pbAt_set0 hq _, ownsRow_setCell_below ho (by simp) _, (hbq.trans (hb.mono hbq.size)).setCell (Nat.le_refl _) _⟩)
          go_cut [10] (fun v wx => v = .pointer (some ⟨w2.heap.size, 0, none⟩) ∧ ∃ va vc, PbAt wx w2.heap.size pbTy (.slice va L.length vc) (.slice ca C.length cc) n ∧ OwnR ltV 4 ltTy (w2.heap.size + 1) wx (.slice va L.length vc) (L.drop F ++ L.take F) ∧ Below w2.heap.size w2 wx)
          case first =>
            go_region_law (first
              | (refine step_appRK (by rfl) _ _ _ (by rfl) ltV_len ltV_one (by decide) ltTy Tryd.underlying22 infoLt20 (by rfl) (by decide) (w2.heap.size + 1) (.slice (some ⟨w2.heap.size + 1, 0, none⟩) 0 0) ([] : List Lt) (by rfl) ho0.out (ys := L.drop F) (by rfl) hr0.out (by simp) (by have := hle1.out; have := hLs.out; omega) (by have := hW0.out.size; rw [hsz1] at this; exact this) ?_; intro v6 w6 hown6 htr6; have hb6 := hidden (hW0.out.trans ((sm_low (B := w2.heap.size + 1) htr6 (fun k q => by have e : w2.heap.size + 1 = k := (by simpa [Value.ownBlock] using q); omega) (by have := hW0.out.size; rw [hsz1] at this; exact this)).mono (by rw [hsz1]; exact Nat.le_refl _))); obtain ⟨x0, xq, xr⟩ := hnow.out _ hb6.out; obtain ⟨va6, vc6, rfl⟩ := own_row hown6 hle1.out; have hr6 := hidden (row_take (k := F) ltV_len xr.lots (by have := hFs.out; omega)); replace hown6 := hidden hown6; clear htr6 xq xr)
              | (refine step_appRK (by rfl) _ _ _ (by rfl) ltV_len ltV_one (by decide) ltTy Tryd.underlying22 infoLt20 (by rfl) (by decide) (w2.heap.size + 1) _ (L.drop F) (by rfl) hown6.out (ys := L.take F) (by rfl) hr6.out (by have := hle1.out; have := hLs.out; omega) (by have := hFs.out; have := hLs.out; simp; omega) (by have := hb6.out.size; rw [hsz1] at this; exact this) ?_; intro v7 w7 hown7 htr7; have hb7 := hidden (hb6.out.trans ((sm_low (B := w2.heap.size + 1) htr7 (fun k q => (World.ownsRow.lt hown6.out k q).1) (by have := hb6.out.size; rw [hsz1] at this; exact this)).mono (by rw [hsz1]; exact Nat.le_refl _))); obtain ⟨y0, yq, yr⟩ := hnow.out _ hb7.out; obtain ⟨yq0, yq1, yq2⟩ := yq.cells; have yf := yq.frozen20 0; obtain ⟨va7, vc7, rfl⟩ := own_row hown7 hle2.out; replace hown7 := hidden hown7; replace yq := hidden yq; clear htr7 yr))
            all_goals (go_wp2_with fail; go_meet; exact ⟨rfl, hfin.out _ _ _ yq.out hown7.out hb7.out⟩)
          case rest =>
            clear hfin ho0 hr0 hW0 hnow hq0 hbq hsz1 c0a c0b c0 c1 c2
            obtain ⟨rfl, va, vc, hq, ho, hb⟩ := hcut
            obtain ⟨q0, q1, q2⟩ := hq.cells
            have hqf := hq.frozen20 0
            have hszc : w2.heap.size < wc.heap.size := (Array.getElem?_eq_some_iff.1 hq.row).1
            have q0a : ∀ o, (wc.alloc o).cell? ⟨w2.heap.size, 0, none⟩ = some (.slice va L.length vc) := fun o => Go.Lib.cell?_alloc_some o q0
            have hfin := hidden (fun va8 vc8 w8 (hb8 : Below (w2.heap.size + 1) wc w8) (ho8 : OwnR ltV 4 ltTy (w2.heap.size + 1) w8 (.slice va8 (L.length + 1) vc8) (L.drop F ++ L.take F ++ [(⟨2, 0, z, 0⟩ : Lt)])) =>
              show ∃ va vc, PbAt (w8.setCell ⟨w2.heap.size, 0, none⟩ (.slice va8 (L.length + 1) vc8)) w2.heap.size pbTy (.slice va (L.length + 1) vc) (.slice ca C.length cc) n ∧ Row ltV 4 (w8.setCell ⟨w2.heap.size, 0, none⟩ (.slice va8 (L.length + 1) vc8)) (.slice va (L.length + 1) vc) (L.drop F ++ L.take F ++ [(⟨2, 0, z, 0⟩ : Lt)]) ∧ Below w2.heap.size w2 (w8.setCell ⟨w2.heap.size, 0, none⟩ (.slice va8 (L.length + 1) vc8)) from
                ⟨va8, vc8, pbAt_set0 ⟨(hb8.block _ (Nat.lt_succ_self _)).trans hq.row⟩ _, OwnR.row (e := ltTy) (base := w2.heap.size + 1) ltV_len (own_set0 ho8 (Nat.lt_succ_self _) _), (hb.trans (hb8.mono (Nat.le_succ _))).setCell (Nat.le_refl _) _⟩)
            have hrow8 := hidden (fun w8 (hb8 : Below (w2.heap.size + 1) wc w8) => show PbAt w8 w2.heap.size pbTy (.slice va L.length vc) (.slice ca C.length cc) n from ⟨(hb8.block _ (Nat.lt_succ_self _)).trans hq.row⟩)
            have ho' := hidden (OwnR.below ho ((Below.refl wc.heap.size wc).drew) (Nat.le_refl _))
            have hW0 := hidden (fun o => show Below (w2.heap.size + 1) wc (wc.drew.alloc o) from ((Below.refl _ wc).drew).alloc hszc o)
            have hvo := hidden (fun k hk => (World.ownsRow.lt ho k hk).1)
            have hle3 := hidden (show (L.drop F ++ L.take F ++ [(⟨2, 0, z, 0⟩ : Lt)]).length = L.length + 1 by rw [List.length_append, hle2.out]; rfl)
            have hoD := hidden (OwnR.below (OwnR.alloc ho (.cells #[.int .i64 2, .int .i64 0, .int .i64 z, .int .i64 0] ltTy)) ((Below.refl (wc.alloc (.cells #[.int .i64 2, .int .i64 0, .int .i64 z, .int .i64 0] ltTy)).heap.size _).drew) (Nat.le_refl _))
            have hrD := hidden ((row_new (w := wc) (e := ltTy) ltV_len #[.int .i64 2, .int .i64 0, .int .i64 z, .int .i64 0] [(⟨2, 0, z, 0⟩ : Lt)] 1 rfl rfl (by decide)).below ltV_len ((Below.refl (wc.alloc (.cells #[.int .i64 2, .int .i64 0, .int .i64 z, .int .i64 0] ltTy)).heap.size _).drew) (Nat.le_refl _))
            have hWD := hidden (show Below (w2.heap.size + 1) wc (wc.alloc (.cells #[.int .i64 2, .int .i64 0, .int .i64 z, .int .i64 0] ltTy)).drew from ((Below.refl _ wc).alloc hszc _).drew)
            clear ho hq
            go_upto_region 14 with (fail)
            go_cut [10] (fun v wx => v = .pointer (some ⟨w2.heap.size, 0, none⟩) ∧ ∃ va vc, PbAt wx w2.heap.size pbTy (.slice va (L.length + 1) vc) (.slice ca C.length cc) n ∧ Row ltV 4 wx (.slice va (L.length + 1) vc) (L.drop F ++ L.take F ++ [(⟨2, 0, z, 0⟩ : Lt)]) ∧ Below w2.heap.size w2 wx)
            case first =>
              go_region_law (first
                | (go_simp; (with_reducible refine (nB.out _).mono ?_); rintro e w' ⟨rfl, rfl⟩; dsimp only)
                | (refine step_appRK (by rfl) _ _ _ (by rfl) ltV_len ltV_one (by decide) ltTy Tryd.underlying22 infoLt20 (by rfl) (by decide) (w2.heap.size + 1) (.slice va L.length vc) (L.drop F ++ L.take F) (by rfl) hoD.out (ys := [(⟨2, 0, z, 0⟩ : Lt)]) (by rfl) hrD.out (by have := hle2.out; have := hLs.out; omega) (by simp) (Nat.le_trans hszc hWD.out.size) ?_; intro v8 w8 hown8 htr8; have hb8 := hidden (hWD.out.trans (sm_low (B := w2.heap.size + 1) htr8 (fun k q => hvo.out k q) (Nat.le_trans hszc hWD.out.size))); obtain ⟨va8, vc8, rfl⟩ := own_row hown8 hle3.out; obtain ⟨y0, y1, y2⟩ := (hrow8.out _ hb8.out).cells; have yf := (hrow8.out _ hb8.out).frozen20 0; replace hown8 := hidden hown8; clear htr8))
              all_goals (go_wp2_with fail; go_meet; exact ⟨rfl, hfin.out _ _ _ hb8.out hown8.out⟩)
            case rest =>
              clear hfin hrow8 ho' hW0 hvo hoD hrD hWD q0a q0 q1 q2 hqf hb
              obtain ⟨rfl, vb, vd, hq, hrow, hb⟩ := hcut
              have hW9 := hb2.out.trans (hb.mono hb2.out.size)
              obtain ⟨c0, c1, c2⟩ := hc.out _ hW9
              have hA1 := hidden (hAl.out _ hW9)
              have hqW := hidden (fun W (hW : Below wc.heap.size wc W) => And.intro (hc.out W (hW9.trans (hW.mono hW9.size))) (And.intro (hq.below hW (Nat.le_refl _)).cells (hbx.out W (hW9.trans (hW.mono hW9.size)))))
              have hA2 := hidden (fun W (hW : Below wc.heap.size wc W) => hAq.out W (hW9.trans (hW.mono hW9.size)) (.slice vb (L.length + 1) vd) (L.drop F ++ L.take F ++ [(⟨2, 0, z, 0⟩ : Lt)]) ⟨hrow.below ltV_len hW (Nat.le_refl _), (hR.out W (hW9.trans (hW.mono hW9.size))).caps, hbig2.out, (hR.out W (hW9.trans (hW.mono hW9.size))).bigC⟩)
              rw [htc.out] at hA2
              have hways : (beC L C n 100000 = 121) ∨ (beC L C n 100000 = 0) := by
                rw [hcode.out]
                split
                · exact .inl rfl
                · exact .inr rfl
              clear hAl hAq hR hE hbig2 hx nA1 nB hrow hq hW9 hb htc hcode
              generalize beW L C n 100000 = wt1 at *
              generalize beW (L.drop F ++ L.take F ++ [(⟨2, 0, z, 0⟩ : Lt)]) C n 100000 = wt2 at *
              generalize beR L C n 100000 = R1 at *
              generalize beR (L.drop F ++ L.take F ++ [(⟨2, 0, z, 0⟩ : Lt)]) C n 100000 = R2 at *
              generalize beC L C n 100000 = code at *
              obtain ⟨⟨Rst1, T1, K1, k1⟩, S1⟩ := R1
              obtain ⟨⟨Rst2, T2, K2, k2⟩, S2⟩ := R2
              simp only at hA1 hA2 htq
              have hsm : code = 0 → S1 = true → S2 = true → K2 = K1 := fun h0 h1 h2 => (htq.out h0 h1 h2).symm
              replace hsm := hidden hsm
              clear htq
              rcases hways with rfl | rfl
              all_goals
                first | rw [errOf_121] at hA1 hA2 | rw [errOf_fine] at hA1 hA2
                go_wp2_with fail
                (with_reducible refine hA1.out.mono ?_)
                rintro e w10 ⟨v1, rfl, hr1, ho1, hd1⟩
                obtain ⟨va1, vc1, rfl⟩ := reads_slice hr1
                have hd2 := hidden (below_alloc20 hd1 (reO (.slice va1 T1.length vc1) wt1 K1 S1 k1))
                have hz1 := hidden (heap_alloc_new w10 (reO (.slice va1 T1.length vc1) wt1 K1 S1 k1))
                clear c0 c1 c2
                obtain ⟨⟨c0, c1, c2⟩, ⟨q0, q1, q2⟩, _⟩ := hqW.out _ hd2.out
                have hA3 := hidden (hA2.out _ hd2.out)
                clear hr1 ho1 hd1 hA1 hA2
                go_wp2_with fail
                (with_reducible refine hA3.out.mono ?_)
                rintro e w11 ⟨v2, rfl, hr2, ho2, hd3⟩
                obtain ⟨va2, vc2, rfl⟩ := reads_slice hr2
                have hd4 := hidden (below_alloc20 hd3 (reO (.slice va2 T2.length vc2) wt2 K2 S2 k2))
                obtain ⟨⟨x0, x1, x2, x3, x4⟩, _⟩ := re_cells (row_later hz1.out hd4.out)
                obtain ⟨⟨z0, z1, z2, z3, z4⟩, _⟩ := re_cells (heap_alloc_new w11 (reO (.slice va2 T2.length vc2) wt2 K2 S2 k2))
                have hend := hidden (hqW.out _ (hd2.out.trans (hd4.out.mono hd2.out.size))).2.2
                clear hr2 ho2 hd3 hA3 hqW hd2 hd4 hz1 c0 c1 c2 q0 q1 q2
                have hend2 := hidden (fun m => below_drewN (m := m) hend.out)
                generalize T1.length = t1 at *
                generalize T2.length = t2 at *
              · clear hsm
                go_wp2_with fail
                go_quiet (fail)
                go_wp2
                go_ret
                exact ⟨rfl, hend2.out _⟩
              · have x2d : ∀ m, ((w11.alloc (reO (.slice va2 t2 vc2) wt2 K2 S2 k2)).drewN m).cell? ⟨w10.heap.size, 2, none⟩ = some (.int .i64 K1) := fun m => x2
                cases S1
                · clear hsm
                  go_wp2_with fail
                  go_quiet (fail)
                  go_wp2
                  go_ret
                  exact ⟨rfl, hend2.out _⟩
                · cases S2
                  · clear hsm
                    go_wp2_with fail
                    go_quiet (fail)
                    go_wp2
                    go_ret
                    exact ⟨rfl, hend2.out _⟩
                  · obtain rfl := hsm.out (by trivial) (by trivial) (by trivial)
                    clear hsm
                    go_wp2_with fail
                    go_quiet (fail)
                    go_wp2
                    go_ret
                    exact ⟨rfl, hend2.out _⟩
    · have hd : decide (6 < (L.length : Int)) = true := decide_eq_true (by omega)
      clear hAl hAq hR hE hok nA nB hx
      go_wp2_with fail
      (with_reducible refine hV2.out.mono ?_)
      rintro r w2 ⟨rfl, hb2⟩
      obtain ⟨c0, c1, c2⟩ := hc.out _ (hb1.out.trans (hb2.mono hb1.out.size))
      have hend := hidden (hbx.out _ (hb1.out.trans (hb2.mono hb1.out.size)))
      clear hV2 hb2 hb1 hc
      go_wp2
      go_ret
      exact ⟨rfl, hend.out⟩
  · have hne := errOf_pb A hok
    generalize errOf A (pbC L C n) = ev at *
    rcases hne with rfl | rfl
    all_goals
      clear hAl hAq hR hE hok nA nB hx
      go_wp2_with fail
      (with_reducible refine hV2.out.mono ?_)
      rintro r w2 ⟨rfl, hb2⟩
      have hend := hidden (hbx.out _ (hb1.out.trans (hb2.mono hb1.out.size)))
      clear hV2 hb2 hb1 hc
      go_wp2
      go_ret
      exact ⟨rfl, hend.out⟩
end Go.Proofs.YtaojahjgfgmpfaaDoor
