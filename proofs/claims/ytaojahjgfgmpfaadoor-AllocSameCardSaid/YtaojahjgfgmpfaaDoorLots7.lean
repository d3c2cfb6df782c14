/-
  The places in order: insertion into a row; slices.SortStableFunc of at most twenty; cheapestFirst.
-/
import Derived.Test.YtaojahjgfgmpfaaDoorLots6
namespace Go.Proofs.YtaojahjgfgmpfaaDoor
open Go.RowKit
set_option linter.unusedVariables false

def nats (l : List Nat) : List Int := l.map fun n : Nat => (n : Int)
theorem nats_len (l : List Nat) : (nats l).length = l.length := List.length_map _
theorem nats_at (l : List Nat) (i : Nat) : (nats l).getD i 0 = ((l.getD i 0 : Nat) : Int) := by
  unfold nats
  rw [List.getD_eq_getElem?_getD, List.getD_eq_getElem?_getD, List.getElem?_map]
  cases l[i]? <;> rfl
theorem nats_set (l : List Nat) (i x : Nat) : (nats l).set i (x : Int) = nats (l.set i x) := by
  unfold nats
  rw [List.map_set]
def isL (L : List Lt) (n k : Nat) : List Nat := ordTo L k ++ (List.range n).drop k
def isJ (L : List Lt) (n k j : Nat) : List Nat := (ordTo L k).take j ++ k :: (ordTo L k).drop j ++ (List.range n).drop (k + 1)
theorem isJ_start (L : List Lt) {n k : Nat} (h : k < n) : isJ L n k k = isL L n k := by
  unfold isJ isL
  have e := ordTo_len L k
  have e1 : (ordTo L k).take k = ordTo L k := List.take_of_length_le (by omega)
  have e2 : (ordTo L k).drop k = [] := List.drop_of_length_le (by omega)
  have e3 : (List.range n).drop k = k :: (List.range n).drop (k + 1) := by
    rw [List.drop_eq_getElem_cons (by rw [List.length_range]; exact h), List.getElem_range]
  rw [e1, e2, e3]
  simp
theorem isJ_end (L : List Lt) {n k j : Nat} (h : insAt L (ordTo L k) k k = j) : isJ L n k j = isL L n (k + 1) := by
  unfold isJ isL
  show _ = ins L (ordTo L k) k ++ _
  unfold ins
  rw [ordTo_len, h]
theorem isJ_len (L : List Lt) {n k j : Nat} (h : k < n) (hj : j ≤ k) : (isJ L n k j).length = n := by
  have e := ordTo_len L k
  unfold isJ
  simp
  omega
theorem isJ_at (L : List Lt) {n k j : Nat} (hj : j ≤ k) : (isJ L n k j).getD j 0 = k := by
  have e := ordTo_len L k
  have e2 : ((ordTo L k).take j).length = j := by rw [List.length_take]; omega
  unfold isJ
  rw [List.getD_eq_getElem?_getD, List.append_assoc, List.getElem?_append_right (by omega), e2, Nat.sub_self]
  rfl
theorem isJ_prev (L : List Lt) {n k p : Nat} (hp : p < k) : (isJ L n k (p + 1)).getD p 0 = (ordTo L k).getD p 0 := by
  have e := ordTo_len L k
  have e2 : ((ordTo L k).take (p + 1)).length = p + 1 := by rw [List.length_take]; omega
  unfold isJ
  rw [List.getD_eq_getElem?_getD, List.getD_eq_getElem?_getD, List.append_assoc, List.getElem?_append_left (by omega), List.getElem?_take, if_pos (by omega)]
theorem isJ_swap (L : List Lt) {n k p : Nat} (hp : p < k) : ((isJ L n k (p + 1)).set (p + 1) ((ordTo L k).getD p 0)).set p k = isJ L n k p := swap_at (ordTo L k) _ k p (by rw [ordTo_len]; exact hp)
theorem isL_one (L : List Lt) {n : Nat} (h : 1 ≤ n) : List.range n = isL L n 1 := by
  have e : isL L n 0 = List.range n := by unfold isL ordTo; simp
  rw [← e, ← isJ_start L (k := 0) (by omega)]
  exact isJ_end L rfl
theorem isL_end (L : List Lt) (n : Nat) : isL L n n = ordTo L n := by
  unfold isL
  rw [List.drop_of_length_le (by rw [List.length_range]; exact Nat.le_refl _), List.append_nil]
abbrev inTy : TypeId := 3
def IsRel1 (L : List Lt) (n gb : Nat) (w0 : World) (i : Value) (w : World) : Prop := ∃ k : Nat, 1 ≤ k ∧ k ≤ n ∧ i = .int .i64 (k : Int) ∧ NumAt inTy w gb (nats (isL L n k)) ∧ Below w0.heap.size w0 w
def IsRel2 (L : List Lt) (n k gb : Nat) (w0 : World) (i : Value) (w : World) : Prop := ∃ j : Nat, j ≤ k ∧ i = .int .i64 (j : Int) ∧ insAt L (ordTo L k) k k = insAt L (ordTo L k) k j ∧ NumAt inTy w gb (nats (isJ L n k j)) ∧ Below w0.heap.size w0 w
theorem insAt_more {L : List Lt} {s : List Nat} {x p : Nat} (h : dear (L.getD (s.getD p 0) ltZ) (L.getD x ltZ) = true) : insAt L s x (p + 1) = insAt L s x p := by rw [insAt, if_pos h]
theorem insAt_stop {L : List Lt} {s : List Nat} {x p : Nat} (h : dear (L.getD (s.getD p 0) ltZ) (L.getD x ltZ) = false) : insAt L s x (p + 1) = p + 1 := by rw [insAt, if_neg (by rw [h]; decide)]
theorem numAt_next {T : TypeId} {w W : World} {g : Nat} {l : List Int} (h : NumAt T w g l) (hb : Below w.heap.size w W) : NumAt T W g l := h.below hb (Nat.le_refl _)
abbrev IsS (w0 : World) (gb j p : Nat) (x y : Int) (l : List Int) (W : World) : Prop := W.cell? ⟨gb, j, none⟩ = some (.int .i64 x) ∧ W.cell? ⟨gb, p, none⟩ = some (.int .i64 y) ∧ NumAt inTy W gb l ∧ Below w0.heap.size w0 W
theorem isS_drew {w0 W : World} {gb j p : Nat} {x y : Int} {l : List Int} (h : IsS w0 gb j p x y l W) : IsS w0 gb j p x y l W.drew := ⟨h.1, h.2.1, h.2.2.1.drew, h.2.2.2.drew⟩
theorem isS_next {w0 W W' : World} {gb j p : Nat} {x y : Int} {l : List Int} (h : IsS w0 gb j p x y l W) (hb : Below W.heap.size W W') : IsS w0 gb j p x y l W' := by
  have hlt := h.2.2.1.lt
  refine ⟨?_, ?_, h.2.2.1.below hb (Nat.le_refl _), h.2.2.2.trans (hb.mono h.2.2.2.size)⟩
  · rw [World.cell?_of_block (w := W) (hb.block gb hlt)]; exact h.1
  · rw [World.cell?_of_block (w := W) (hb.block gb hlt)]; exact h.2.1
set_option maxRecDepth 100000 in
set_option maxHeartbeats 12800000 in
theorem isort_any (la : Option Addr) (lc g gb : Nat) (L : List Lt) (w0 w : World) (hr : Row ltV 4 w0 (.slice la L.length lc) L) (hbig : ∀ x ∈ L, ltBig x) (hv : ∀ x ∈ L, 0 ≤ x.v) (hg : w0.cell? ⟨g, 0, none⟩ = some (.slice la L.length lc)) (hgb : w0.heap.size = gb)
    (h1 : 1 ≤ L.length) (h8 : L.length ≤ 8) (hN : NumAt inTy w gb (nats (List.range L.length))) (hb : Below w0.heap.size w0 w) :
    Calls Tryd.prog 79 #[.slice (some ⟨gb, 0, none⟩) L.length L.length, .int .i64 0, .int .i64 (L.length : Int), .func (.func 84) #[] #[.pointer (some ⟨g, 0, none⟩)]] w fun e w' => e = .returned (.tuple #[]) ∧ NumAt inTy w' gb (nats (ordL L)) ∧ Below w0.heap.size w0 w' := by
  have hC := hidden (fun i j W (hW : Below w0.heap.size w0 W) hi hj => ahead_any18 la lc g i j L W (hr.below ltV_len hW (Nat.le_refl _)) hbig (by rw [World.cell?_of_block (w := w0) (hW.block _ (World.block_lt_of_cell? w0 _ hg))]; exact hg) hi hj)
  have hdear := hidden (fun i j (hi : i < L.length) (hj : j < L.length) => show decide (cmpR (L.getD i ltZ) (L.getD j ltZ) < 0) = dear (L.getD j ltZ) (L.getD i ltZ) from cmpR_neg (by rw [List.getD_eq_getElem?_getD, List.getElem?_eq_getElem hi]; exact hv _ (List.getElem_mem hi)) (by rw [List.getD_eq_getElem?_getD, List.getElem?_eq_getElem hj]; exact hv _ (List.getElem_mem hj)))
  have hst := hidden hN
  rw [isL_one L h1] at hst
  replace hb := hidden hb
  have hfin := hidden (isL_end L L.length)
  generalize hn : L.length = n at *
  have hnI : (n : Int) ≤ 8 := by omega
  have hn1 : (1 : Int) ≤ (n : Int) := by omega
  have hordL := hidden (show ordL L = ordTo L n by unfold ordL; rw [hn])
  clear hr hbig hv hg hN hn
  go_enter Tryd.func79, Tryd.ntmps79
  go_wp2_with fail
  go_loopw [8] (fun i wr => IsRel1 L n gb w0 i wr) (fun i _ => n - (RowKit.intOf i).toNat)
  case atStart => exact ⟨1, Nat.le_refl _, h1, rfl, hst.out, hb.out⟩
  case round =>
    clear hst hb
    obtain ⟨k, hk1, hk, rfl, hA, hb⟩ := hrel
    by_cases hlt : k < n
    · have hlI : (k : Int) < (n : Int) := by omega
      rw [← isJ_start L hlt] at hA
      replace hA := hidden hA
      replace hb := hidden hb
      go_wp2_with fail
      go_loopw [9] (fun i wr => IsRel2 L n k gb w0 i wr) (fun i _ => (RowKit.intOf i).toNat)
      case atStart => exact ⟨k, Nat.le_refl _, rfl, rfl, hA.out, hb.out⟩
      case round =>
        clear hA hb
        obtain ⟨j, hj, rfl, hins, hA, hb⟩ := hrel
        replace hins := hidden hins
        cases j with
        | zero =>
          have hend := hidden hA
          rw [isJ_end L (show insAt L (ordTo L k) k k = 0 by rw [hins.out]; rfl)] at hend
          have hs0 := hidden (show NumAt inTy wr.drew gb (nats (isL L n (k + 1))) ∧ Below w0.heap.size w0 wr.drew from ⟨hend.out.drew, hb.drew⟩)
          clear hA hend hins
          replace hb := hidden hb
          go_wp2_with fail
          refine wp_region_held_drew (S := fun W => NumAt inTy W gb (nats (isL L n (k + 1))) ∧ Below w0.heap.size w0 W) (by kernel_rfl) hs0.out (fun hHeld => ?_)
          refine take_plain 0 18 (.int .i64 0) rfl rfl (by kernel_rfl) (by kernel_rfl) (by kernel_rfl) (fun _ _ _ h => h) (by rfl) ?_ hHeld ?_
          · intro w hSw
            try dsimp only at hSw
            go_simp
          simp only [Act.put, List.setIfInBounds_toArray, List.set_cons_zero, List.set_cons_succ]
          refine take_plain 1 19 (.int .i64 0) rfl rfl (by kernel_rfl) (by kernel_rfl) (by kernel_rfl) (fun _ _ _ h => h) (by rfl) ?_ hHeld ?_
          · intro w hSw
            try dsimp only at hSw
            go_simp
          simp only [Act.put, List.setIfInBounds_toArray, List.set_cons_zero, List.set_cons_succ]
          refine take_plain 2 20 (.bool false) rfl rfl (by kernel_rfl) (by kernel_rfl) (by kernel_rfl) (fun _ _ _ h => h) (by rfl) ?_ hHeld ?_
          · intro w hSw
            try dsimp only at hSw
            go_simp
          simp only [Act.put, List.setIfInBounds_toArray, List.set_cons_zero, List.set_cons_succ]
          refine take_plain 3 21 (.bool false) rfl rfl (by kernel_rfl) (by kernel_rfl) (by kernel_rfl) (fun _ _ _ h => h) (by rfl) ?_ hHeld ?_
          · intro w hSw
            try dsimp only at hSw
            go_simp
          simp only [Act.put, List.setIfInBounds_toArray, List.set_cons_zero, List.set_cons_succ]
          refine take_struck 4 22 rfl rfl (by kernel_rfl) (by kernel_rfl) (by kernel_rfl) (fun _ _ _ h => h) (by rfl) hHeld ?_
          simp only [Act.put, List.setIfInBounds_toArray, List.set_cons_zero, List.set_cons_succ]
          refine take_struck 5 23 rfl rfl (by kernel_rfl) (by kernel_rfl) (by kernel_rfl) (fun _ _ _ h => h) (by rfl) hHeld ?_
          simp only [Act.put, List.setIfInBounds_toArray, List.set_cons_zero, List.set_cons_succ]
          refine take_struck 6 24 rfl rfl (by kernel_rfl) (by kernel_rfl) (by kernel_rfl) (fun _ _ _ h => h) (by rfl) hHeld ?_
          simp only [Act.put, List.setIfInBounds_toArray, List.set_cons_zero, List.set_cons_succ]
          refine take_struck 7 25 rfl rfl (by kernel_rfl) (by kernel_rfl) (by kernel_rfl) (fun _ _ _ h => h) (by rfl) hHeld ?_
          simp only [Act.put, List.setIfInBounds_toArray, List.set_cons_zero, List.set_cons_succ]
          refine take_struck 8 26 rfl rfl (by kernel_rfl) (by kernel_rfl) (by kernel_rfl) (fun _ _ _ h => h) (by rfl) hHeld ?_
          simp only [Act.put, List.setIfInBounds_toArray, List.set_cons_zero, List.set_cons_succ]
          refine take_struck 9 27 rfl rfl (by kernel_rfl) (by kernel_rfl) (by kernel_rfl) (fun _ _ _ h => h) (by rfl) hHeld ?_
          simp only [Act.put, List.setIfInBounds_toArray, List.set_cons_zero, List.set_cons_succ]
          refine take_struck 10 28 rfl rfl (by kernel_rfl) (by kernel_rfl) (by kernel_rfl) (fun _ _ _ h => h) (by rfl) hHeld ?_
          simp only [Act.put, List.setIfInBounds_toArray, List.set_cons_zero, List.set_cons_succ]
          refine take_struck 11 29 rfl rfl (by kernel_rfl) (by kernel_rfl) (by kernel_rfl) (fun _ _ _ h => h) (by rfl) hHeld ?_
          simp only [Act.put, List.setIfInBounds_toArray, List.set_cons_zero, List.set_cons_succ]
          refine take_struck 12 30 rfl rfl (by kernel_rfl) (by kernel_rfl) (by kernel_rfl) (fun _ _ _ h => h) (by rfl) hHeld ?_
          simp only [Act.put, List.setIfInBounds_toArray, List.set_cons_zero, List.set_cons_succ]
          refine take_struck 13 31 rfl rfl (by kernel_rfl) (by kernel_rfl) (by kernel_rfl) (fun _ _ _ h => h) (by rfl) hHeld ?_
          simp only [Act.put, List.setIfInBounds_toArray, List.set_cons_zero, List.set_cons_succ]
          refine take_struck 14 32 rfl rfl (by kernel_rfl) (by kernel_rfl) (by kernel_rfl) (fun _ _ _ h => h) (by rfl) hHeld ?_
          simp only [Act.put, List.setIfInBounds_toArray, List.set_cons_zero, List.set_cons_succ]
          refine take_struck 15 33 rfl rfl (by kernel_rfl) (by kernel_rfl) (by kernel_rfl) (fun _ _ _ h => h) (by rfl) hHeld ?_
          simp only [Act.put, List.setIfInBounds_toArray, List.set_cons_zero, List.set_cons_succ]
          refine take_plain 16 34 (.bool false) rfl rfl (by kernel_rfl) (by kernel_rfl) (by kernel_rfl) (fun _ _ _ h => h) (by rfl) ?_ hHeld ?_
          · intro w hSw
            try dsimp only at hSw
            go_simp
          simp only [Act.put, List.setIfInBounds_toArray, List.set_cons_zero, List.set_cons_succ]

          refine wpAnyH_done (by kernel_rfl) ?_ _
          have hEnd := hidden hHeld
          clear hHeld hs0
          go_wp2
          go_roundw
          case rel => exact ⟨k + 1, by omega, hlt, by go_num, hEnd.out.1, hEnd.out.2⟩
          case measure => simp [RowKit.intOf]; omega
        | succ p =>
          have hpk : p < k := by omega
          have hpn : p < n := by omega
          have cj := hA.cell (i := p + 1) (by rw [nats_len, isJ_len L hlt hj]; omega)
          have cp := hA.cell (i := p) (by rw [nats_len, isJ_len L hlt hj]; omega)
          rw [nats_at, isJ_at L hj] at cj
          rw [nats_at, isJ_prev L hpk] at cp
          have fj := hA.frozen (p + 1)
          have fp := hA.frozen p
          have hsl : (ordTo L k).getD p 0 < n := by have := ordTo_lt (L := L) hpk; omega
          have hd := hidden (hdear.out k ((ordTo L k).getD p 0) hlt hsl)
          have hCW := hidden (fun W hW => hC.out k ((ordTo L k).getD p 0) W hW hlt hsl)
          have hwp : IntKind.i64.wrap (((p + 1 : Nat) : Int) - 1) = (p : Int) := by rw [IntKind.wrap_i64]; omega
          have hpI : ((p + 1 : Nat) : Int) ≤ 8 ∧ 0 < ((p + 1 : Nat) : Int) := by omega
          have hsw := hidden (isJ_swap L (n := n) hpk)
          have hmore := hidden (fun h => @insAt_more L (ordTo L k) k p h)
          have hstop := hidden (fun h => @insAt_stop L (ordTo L k) k p h)
          generalize (ordTo L k).getD p 0 = q at *
          have hs0 := hidden (show IsS w0 gb (p + 1) p (k : Int) (q : Int) (nats (isJ L n k (p + 1))) wr from ⟨cj, cp, hA, hb⟩)
          have hA0 := hidden hA
          have hpj : ((p : Int) + 1) < (n : Int) := by omega
          have hpj2 : (p : Int) < (n : Int) := by omega
          have hp0 : (0 : Int) ≤ (p : Int) := by omega
          have hwq : IntKind.i64.wrap (p : Int) = (p : Int) := by rw [IntKind.wrap_i64]; omega
          have hp1 : (0 : Int) ≤ (p : Int) + 1 := by omega
          clear hC hdear hA hb cj cp
          generalize cmpR (L.getD k ltZ) (L.getD q ltZ) = r0 at *
          have hB1 := hidden (fun (h : r0 < 0) => show dear (L.getD q ltZ) (L.getD k ltZ) = true from by rw [← hd.out]; exact decide_eq_true h)
          have hB2 := hidden (fun (h : ¬ r0 < 0) => show dear (L.getD q ltZ) (L.getD k ltZ) = false from by rw [← hd.out]; exact decide_eq_false h)
          clear hd
          go_wp2_with fail
          go_region_held3 (fun W => W.cell? ⟨gb, p + 1, none⟩ = some (.int .i64 (k : Int)) ∧ W.cell? ⟨gb, p, none⟩ = some (.int .i64 (q : Int)) ∧ NumAt inTy W gb (nats (isJ L n k (p + 1))) ∧ Below w0.heap.size w0 W)
            ((first | exact isS_drew hs0.out | assumption | exact isS_next (by assumption) (by assumption)))
            ((go_at_call 84; (with_reducible refine (hCW.out _ (by first | exact hs0.out.2.2.2.drew | exact And.right (And.right (And.right (by assumption))))).mono ?_); rintro r w5 ⟨rfl, hb5⟩))
          rename_i hh
          obtain ⟨cj, cp, hA, hb⟩ := hh
          replace hb := hidden hb
          clear hs0 hCW
          by_cases hr0 : r0 < 0
          · have hm := hidden (hins.out.trans (hmore.out (hB1.out hr0)))
            clear hB1 hB2 hmore hstop hins hA0
            have fj := hA.frozen (p + 1)
            have fp := hA.frozen p
            have hA3 := hidden ((hA.set (p + 1) (q : Int)).set p (k : Int))
            rw [nats_set, nats_set, hsw.out] at hA3
            have hb3 := hidden ((hb.out.setCell (p := ⟨gb, p + 1, none⟩) (show w0.heap.size ≤ gb from Nat.le_of_eq hgb) (.int .i64 (q : Int))).setCell (p := ⟨gb, p, none⟩) (show w0.heap.size ≤ gb from Nat.le_of_eq hgb) (.int .i64 (k : Int)))
            clear hA hsw
            go_wp2_with fail
            go_region
            all_goals
              go_wp2
              go_roundw
              case rel => exact ⟨p, by omega, rfl, hm.out, hA3.out.drew, hb3.out.drew⟩
              case measure => simp [RowKit.intOf]
          · have hm := hidden (hins.out.trans (hstop.out (hB2.out (by omega))))
            rw [isJ_end L hm.out] at hA
            replace hA := hidden hA
            clear hB1 hB2 hmore hstop hins hA0
            go_wp2
            go_roundw
            case rel => exact ⟨k + 1, by omega, hlt, by go_num, hA.out, hb.out⟩
            case measure => simp [RowKit.intOf]; omega
    · obtain rfl : k = n := by omega
      rw [hfin.out, ← hordL.out] at hA
      replace hA := hidden hA
      replace hb := hidden hb
      go_wp2
      go_end0
      exact ⟨rfl, hA.out, hb.out⟩
end Go.Proofs.YtaojahjgfgmpfaaDoor
