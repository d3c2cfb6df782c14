/-
  Which lot costs more for what it is worth; the places in that order: slices.SortStableFunc of at most twenty.
  The places in order: insertion into a row; slices.SortStableFunc of at most twenty; cheapestFirst.
  slices.SortStableFunc; cheapestFirst.
  Greedy.
-/
import Derived.Test.YtmihpgccdknhfaaDoorLots1
import Derived.Test.YtmihpgccdknhfaaDoorFix
import Derived.Test.YtmihpgccdknhfaaDoorBase
namespace Go.Proofs.YtmihpgccdknhfaaDoor
open Go.RowKit
set_option linter.unusedVariables false

def cmpR (a b : Lt) : Int := if a.v = 0 ∨ b.v = 0 then cmpv b.v a.v else cmpv (a.c * b.v) (b.c * a.v)
theorem cmpv_neg (x y : Int) : cmpv x y < 0 ↔ x < y := by
  unfold cmpv
  split
  · omega
  · split <;> omega
theorem cmpR_neg {a b : Lt} (ha : 0 ≤ a.v) (hb : 0 ≤ b.v) : decide (cmpR a b < 0) = dear b a := by
  unfold cmpR dear
  rw [Bool.eq_iff_iff]
  by_cases h : a.v = 0 ∨ b.v = 0
  · rw [if_pos h, if_pos h.symm, decide_eq_true_iff, decide_eq_true_iff, cmpv_neg]
    omega
  · rw [if_neg h, if_neg (fun q => h q.symm), decide_eq_true_iff, decide_eq_true_iff, cmpv_neg]
theorem cmpR_bd (a b : Lt) : -1 ≤ cmpR a b ∧ cmpR a b ≤ 1 := by
  unfold cmpR cmpv
  split <;> (split <;> (try split)) <;> omega
theorem ltBox2 {w W : World} {a b : Lt} (hb : Below ((w.alloc (ltO a)).alloc (ltO b)).heap.size ((w.alloc (ltO a)).alloc (ltO b)) W) : LotAt W w.heap.size 0 a ∧ LotAt W (w.heap.size + 1) 0 b := by
  have e1 : (w.alloc (ltO a)).heap.size = w.heap.size + 1 := by simp
  refine ⟨ltBox ((below_lt (w.alloc (ltO a)) b).trans (hb.mono (by simp))), ?_⟩
  have := ltBox (w := w.alloc (ltO a)) hb
  rwa [e1] at this
set_option maxHeartbeats 1600000 in
theorem rates_any (a b : Lt) (w : World) (ha : ltBig a) (hb : ltBig b) :
    Calls Tryd.prog 92 #[ltA a, ltA b] w fun e w' => e = .returned (.int .i64 (cmpR a b)) ∧ Below w.heap.size w w' := by
  have hb0 := hidden ((below_lt w a).trans ((below_lt (w.alloc (ltO a)) b).mono (by simp)) : Below w.heap.size w ((w.alloc (ltO a)).alloc (ltO b)))
  unfold ltBig at ha hb
  have hI := hidden (fun W => cmpI_any b.v a.v W)
  have hC := hidden (fun W => fixCmp_any a.c b.v b.c a.v W (by omega) (by omega) (by omega) (by omega) (by omega) (by omega) (by omega) (by omega))
  unfold cmpR
  by_cases h1 : a.v = 0
  · rw [if_pos (.inl h1)]
    obtain ⟨au, av, ac, ag⟩ := a
    obtain ⟨bu, bv, bc, bg⟩ := b
    simp only at h1 hI
    subst h1
    simp only
    clear hC
    go_enter Tryd.func92, Tryd.ntmps92
    go_wp2_with (go_at_call 78; (with_reducible refine (hI.out _).mono ?_); rintro e w' ⟨rfl, rfl⟩)
    go_ret
    exact ⟨rfl, hb0.out⟩
  · have n1 : (a.v == 0) = false := by rw [beq_eq_false_iff_ne]; exact h1
    by_cases h2 : b.v = 0
    · rw [if_pos (.inr h2)]
      obtain ⟨au, av, ac, ag⟩ := a
      obtain ⟨bu, bv, bc, bg⟩ := b
      simp only at h1 h2 hI n1
      subst h2
      simp only
      clear hC h1
      go_enter Tryd.func92, Tryd.ntmps92
      go_wp2_with (go_at_call 78; (with_reducible refine (hI.out _).mono ?_); rintro e w' ⟨rfl, rfl⟩)
      go_ret
      exact ⟨rfl, hb0.out⟩
    · rw [if_neg (by intro q; rcases q with q | q; exact h1 q; exact h2 q)]
      have n2 : (b.v == 0) = false := by rw [beq_eq_false_iff_ne]; exact h2
      obtain ⟨au, av, ac, ag⟩ := a
      obtain ⟨bu, bv, bc, bg⟩ := b
      simp only at h1 h2 hC n1 n2
      simp only
      clear hI h1 h2
      go_enter Tryd.func92, Tryd.ntmps92
      go_wp2_with fail
      (with_reducible refine (hC.out _).mono ?_)
      rintro e w5 ⟨rfl, hb5⟩
      replace hb5 := hidden (hb0.out.trans (hb5.mono hb0.out.size))
      clear hC
      go_wp2
      go_ret
      exact ⟨rfl, hb5.out⟩
theorem lotAt_below {w w' : World} {b o : Nat} {x : Lt} (h : LotAt w b o x) (hb : Below w.heap.size w w') : LotAt w' b o x := by
  have hlt : b < w.heap.size := World.block_lt_of_cell? w _ h.1
  have e : ∀ p : Nat, w'.cell? ⟨b, p, none⟩ = w.cell? ⟨b, p, none⟩ := fun p => World.cell?_of_block (hb.block b hlt)
  obtain ⟨h0, h1, h2, h3⟩ := h
  exact ⟨(e _).trans h0, (e _).trans h1, (e _).trans h2, (e _).trans h3⟩
abbrev LeS (w0 : World) (g : Nat) (v : Value) (b o p : Nat) (x y : Lt) (W : World) : Prop :=
  W.cell? ⟨g, 0, none⟩ = some v ∧ (W.cell? ⟨b, o, none⟩ = some (.int .i64 x.u) ∧ W.cell? ⟨b, o + 1, none⟩ = some (.int .i64 x.v) ∧ W.cell? ⟨b, o + 2, none⟩ = some (.int .i64 x.c) ∧ W.cell? ⟨b, o + 3, none⟩ = some (.int .i64 x.g)) ∧
    (W.cell? ⟨b, p, none⟩ = some (.int .i64 y.u) ∧ W.cell? ⟨b, p + 1, none⟩ = some (.int .i64 y.v) ∧ W.cell? ⟨b, p + 2, none⟩ = some (.int .i64 y.c) ∧ W.cell? ⟨b, p + 3, none⟩ = some (.int .i64 y.g)) ∧ Below w0.heap.size w0 W
theorem leS_drew {w0 W : World} {g : Nat} {v : Value} {b o p : Nat} {x y : Lt} (h : LeS w0 g v b o p x y W) : LeS w0 g v b o p x y W.drew := ⟨h.1, h.2.1, h.2.2.1, h.2.2.2.drew⟩
theorem leS_next {w0 W W' : World} {g : Nat} {v : Value} {b o p : Nat} {x y : Lt} (h : LeS w0 g v b o p x y W) (hb : Below W.heap.size W W') : LeS w0 g v b o p x y W' := by
  refine ⟨?_, lotAt_below h.2.1 hb, lotAt_below h.2.2.1 hb, h.2.2.2.trans (hb.mono h.2.2.2.size)⟩
  rw [World.cell?_of_block (w := W) (hb.block _ (World.block_lt_of_cell? W _ h.1))]; exact h.1
set_option maxRecDepth 100000 in
set_option maxHeartbeats 3200000 in
theorem ahead_any18 (la : Option Addr) (lc g i j : Nat) (L : List Lt) (w : World) (hr : Row ltV 4 w (.slice la L.length lc) L) (hbig : ∀ x ∈ L, ltBig x) (hg : w.cell? ⟨g, 0, none⟩ = some (.slice la L.length lc)) (hi : i < L.length) (hj : j < L.length) :
    Calls Tryd.prog 91 #[.int .i64 (i : Int), .int .i64 (j : Int), .pointer (some ⟨g, 0, none⟩)] w fun e w' => e = .returned (.int .i64 (cmpR (L.getD i ltZ) (L.getD j ltZ))) ∧ Below w.heap.size w w' := by
  obtain ⟨b, o, rfl, q⟩ := rowLt_at hr i hi
  obtain ⟨b', o', e, r⟩ := rowLt_at hr j hj
  simp only [Option.some.injEq, Addr.mk.injEq, and_true] at e
  obtain ⟨rfl, rfl⟩ := e
  have hC := hidden (fun W => rates_any (L.getD i ltZ) (L.getD j ltZ) W (by rw [List.getD_eq_getElem?_getD, List.getElem?_eq_getElem hi]; exact hbig _ (List.getElem_mem hi)) (by rw [List.getD_eq_getElem?_getD, List.getElem?_eq_getElem hj]; exact hbig _ (List.getElem_mem hj)))
  have hiI : (i : Int) < (L.length : Int) := by omega
  have hjI : (j : Int) < (L.length : Int) := by omega
  generalize cmpR (L.getD i ltZ) (L.getD j ltZ) = r0 at *
  generalize L.getD i ltZ = x at *
  generalize L.getD j ltZ = y at *
  have hs0 := hidden (show LeS w g (.slice (some ⟨b, o, none⟩) L.length lc) b (o + i * 4) (o + j * 4) x y w from ⟨hg, q, r, Below.refl _ _⟩)
  obtain ⟨xu, xv, xc, xg⟩ := x
  obtain ⟨yu, yv, yc, yg⟩ := y
  clear q r hg hr hbig
  go_enter Tryd.func91, Tryd.ntmps91
  go_wp2_with fail
  go_region_held3 (fun W => W.cell? ⟨g, 0, none⟩ = some (.slice (some ⟨b, o, none⟩) L.length lc) ∧ (W.cell? ⟨b, o + i * 4, none⟩ = some (.int .i64 xu) ∧ W.cell? ⟨b, o + i * 4 + 1, none⟩ = some (.int .i64 xv) ∧ W.cell? ⟨b, o + i * 4 + 2, none⟩ = some (.int .i64 xc) ∧ W.cell? ⟨b, o + i * 4 + 3, none⟩ = some (.int .i64 xg)) ∧
    (W.cell? ⟨b, o + j * 4, none⟩ = some (.int .i64 yu) ∧ W.cell? ⟨b, o + j * 4 + 1, none⟩ = some (.int .i64 yv) ∧ W.cell? ⟨b, o + j * 4 + 2, none⟩ = some (.int .i64 yc) ∧ W.cell? ⟨b, o + j * 4 + 3, none⟩ = some (.int .i64 yg)) ∧ Below w.heap.size w W)
    ((first | exact leS_drew hs0.out | assumption | exact leS_next (x := ⟨xu, xv, xc, xg⟩) (y := ⟨yu, yv, yc, yg⟩) (by assumption) (by assumption)))
    ((go_at_call 92; (with_reducible refine (hC.out _).mono ?_); rintro r w' ⟨rfl, hb5⟩))
  all_goals
    rename_i hh
    have hend := hidden hh.2.2.2
    clear hh hs0
    go_wp2
    go_ret
    exact ⟨rfl, hend.out⟩
end Go.Proofs.YtmihpgccdknhfaaDoor
namespace Go.Proofs.YtmihpgccdknhfaaDoor
open Go.RowKit
set_option linter.unusedVariables false

def nats (l : List Nat) : List Int := l.map fun n : Nat => (n : Int)
theorem nats_len (l : List Nat) : (nats l).length = l.length := List.length_map _
theorem nats_at (l : List Nat) (i : Nat) : (nats l).getD i 0 = ((l.getD i 0 : Nat) : Int) := by
  unfold nats
  rw [List.getD_eq_getElem?_getD, List.getD_eq_getElem?_getD, List.getElem?_map]
  cases l[i]? <;> rfl
theorem nats_set (l : List Nat) (i x : Nat) : (nats l).set i (x : Int) = nats (l.set i x) := by
  unfold nats
  rw [List.map_set]
def isL (L : List Lt) (n k : Nat) : List Nat := ordTo L k ++ (List.range n).drop k
def isJ (L : List Lt) (n k j : Nat) : List Nat := (ordTo L k).take j ++ k :: (ordTo L k).drop j ++ (List.range n).drop (k + 1)
theorem isJ_start (L : List Lt) {n k : Nat} (h : k < n) : isJ L n k k = isL L n k := by
  unfold isJ isL
  have e := ordTo_len L k
  have e1 : (ordTo L k).take k = ordTo L k := List.take_of_length_le (by omega)
  have e2 : (ordTo L k).drop k = [] := List.drop_of_length_le (by omega)
  have e3 : (List.range n).drop k = k :: (List.range n).drop (k + 1) := by
    rw [List.drop_eq_getElem_cons (by rw [List.length_range]; exact h), List.getElem_range]
  rw [e1, e2, e3]
  simp
theorem isJ_end (L : List Lt) {n k j : Nat} (h : insAt L (ordTo L k) k k = j) : isJ L n k j = isL L n (k + 1) := by
  unfold isJ isL
  show _ = ins L (ordTo L k) k ++ _
  unfold ins
  rw [ordTo_len, h]
theorem isJ_len (L : List Lt) {n k j : Nat} (h : k < n) (hj : j ≤ k) : (isJ L n k j).length = n := by
  have e := ordTo_len L k
  unfold isJ
  simp
  omega
theorem isJ_at (L : List Lt) {n k j : Nat} (hj : j ≤ k) : (isJ L n k j).getD j 0 = k := by
  have e := ordTo_len L k
  have e2 : ((ordTo L k).take j).length = j := by rw [List.length_take]; omega
  unfold isJ
  rw [List.getD_eq_getElem?_getD, List.append_assoc, List.getElem?_append_right (by omega), e2, Nat.sub_self]
  rfl
theorem isJ_prev (L : List Lt) {n k p : Nat} (hp : p < k) : (isJ L n k (p + 1)).getD p 0 = (ordTo L k).getD p 0 := by
  have e := ordTo_len L k
  have e2 : ((ordTo L k).take (p + 1)).length = p + 1 := by rw [List.length_take]; omega
  unfold isJ
  rw [List.getD_eq_getElem?_getD, List.getD_eq_getElem?_getD, List.append_assoc, List.getElem?_append_left (by omega), List.getElem?_take, if_pos (by omega)]
theorem isJ_swap (L : List Lt) {n k p : Nat} (hp : p < k) : ((isJ L n k (p + 1)).set (p + 1) ((ordTo L k).getD p 0)).set p k = isJ L n k p := swap_at (ordTo L k) _ k p (by rw [ordTo_len]; exact hp)
theorem isL_one (L : List Lt) {n : Nat} (h : 1 ≤ n) : List.range n = isL L n 1 := by
  have e : isL L n 0 = List.range n := by unfold isL ordTo; simp
  rw [← e, ← isJ_start L (k := 0) (by omega)]
  exact isJ_end L rfl
theorem isL_end (L : List Lt) (n : Nat) : isL L n n = ordTo L n := by
  unfold isL
  rw [List.drop_of_length_le (by rw [List.length_range]; exact Nat.le_refl _), List.append_nil]
abbrev inTy : TypeId := 3
def IsRel1 (L : List Lt) (n gb : Nat) (w0 : World) (i : Value) (w : World) : Prop := ∃ k : Nat, 1 ≤ k ∧ k ≤ n ∧ i = .int .i64 (k : Int) ∧ NumAt inTy w gb (nats (isL L n k)) ∧ Below w0.heap.size w0 w
def IsRel2 (L : List Lt) (n k gb : Nat) (w0 : World) (i : Value) (w : World) : Prop := ∃ j : Nat, j ≤ k ∧ i = .int .i64 (j : Int) ∧ insAt L (ordTo L k) k k = insAt L (ordTo L k) k j ∧ NumAt inTy w gb (nats (isJ L n k j)) ∧ Below w0.heap.size w0 w
theorem insAt_more {L : List Lt} {s : List Nat} {x p : Nat} (h : dear (L.getD (s.getD p 0) ltZ) (L.getD x ltZ) = true) : insAt L s x (p + 1) = insAt L s x p := by rw [insAt, if_pos h]
theorem insAt_stop {L : List Lt} {s : List Nat} {x p : Nat} (h : dear (L.getD (s.getD p 0) ltZ) (L.getD x ltZ) = false) : insAt L s x (p + 1) = p + 1 := by rw [insAt, if_neg (by rw [h]; decide)]
theorem numAt_next {T : TypeId} {w W : World} {g : Nat} {l : List Int} (h : NumAt T w g l) (hb : Below w.heap.size w W) : NumAt T W g l := h.below hb (Nat.le_refl _)
abbrev IsS (w0 : World) (gb j p : Nat) (x y : Int) (l : List Int) (W : World) : Prop := W.cell? ⟨gb, j, none⟩ = some (.int .i64 x) ∧ W.cell? ⟨gb, p, none⟩ = some (.int .i64 y) ∧ NumAt inTy W gb l ∧ Below w0.heap.size w0 W
theorem isS_drew {w0 W : World} {gb j p : Nat} {x y : Int} {l : List Int} (h : IsS w0 gb j p x y l W) : IsS w0 gb j p x y l W.drew := ⟨h.1, h.2.1, h.2.2.1.drew, h.2.2.2.drew⟩
theorem isS_next {w0 W W' : World} {gb j p : Nat} {x y : Int} {l : List Int} (h : IsS w0 gb j p x y l W) (hb : Below W.heap.size W W') : IsS w0 gb j p x y l W' := by
  have hlt := h.2.2.1.lt
  refine ⟨?_, ?_, h.2.2.1.below hb (Nat.le_refl _), h.2.2.2.trans (hb.mono h.2.2.2.size)⟩
  · rw [World.cell?_of_block (w := W) (hb.block gb hlt)]; exact h.1
  · rw [World.cell?_of_block (w := W) (hb.block gb hlt)]; exact h.2.1
set_option maxRecDepth 100000 in
set_option maxHeartbeats 12800000 in
theorem isort_any (la : Option Addr) (lc g gb : Nat) (L : List Lt) (w0 w : World) (hr : Row ltV 4 w0 (.slice la L.length lc) L) (hbig : ∀ x ∈ L, ltBig x) (hv : ∀ x ∈ L, 0 ≤ x.v) (hg : w0.cell? ⟨g, 0, none⟩ = some (.slice la L.length lc)) (hgb : w0.heap.size = gb)
    (h1 : 1 ≤ L.length) (h8 : L.length ≤ 8) (hN : NumAt inTy w gb (nats (List.range L.length))) (hb : Below w0.heap.size w0 w) :
    Calls Tryd.prog 89 #[.slice (some ⟨gb, 0, none⟩) L.length L.length, .int .i64 0, .int .i64 (L.length : Int), .func (.func 91) #[] #[.pointer (some ⟨g, 0, none⟩)]] w fun e w' => e = .returned (.tuple #[]) ∧ NumAt inTy w' gb (nats (ordL L)) ∧ Below w0.heap.size w0 w' := by
  have hC := hidden (fun i j W (hW : Below w0.heap.size w0 W) hi hj => ahead_any18 la lc g i j L W (hr.below ltV_len hW (Nat.le_refl _)) hbig (by rw [World.cell?_of_block (w := w0) (hW.block _ (World.block_lt_of_cell? w0 _ hg))]; exact hg) hi hj)
  have hdear := hidden (fun i j (hi : i < L.length) (hj : j < L.length) => show decide (cmpR (L.getD i ltZ) (L.getD j ltZ) < 0) = dear (L.getD j ltZ) (L.getD i ltZ) from cmpR_neg (by rw [List.getD_eq_getElem?_getD, List.getElem?_eq_getElem hi]; exact hv _ (List.getElem_mem hi)) (by rw [List.getD_eq_getElem?_getD, List.getElem?_eq_getElem hj]; exact hv _ (List.getElem_mem hj)))
  have hst := hidden hN
  rw [isL_one L h1] at hst
  replace hb := hidden hb
  have hfin := hidden (isL_end L L.length)
  generalize hn : L.length = n at *
  have hnI : (n : Int) ≤ 8 := by omega
  have hn1 : (1 : Int) ≤ (n : Int) := by omega
  have hordL := hidden (show ordL L = ordTo L n by unfold ordL; rw [hn])
  clear hr hbig hv hg hN hn
  go_enter Tryd.func89, Tryd.ntmps89
  go_wp2_with fail
  go_loopw [8] (fun i wr => IsRel1 L n gb w0 i wr) (fun i _ => n - (RowKit.intOf i).toNat)
  case atStart => exact ⟨1, Nat.le_refl _, h1, rfl, hst.out, hb.out⟩
  case round =>
    clear hst hb
    obtain ⟨k, hk1, hk, rfl, hA, hb⟩ := hrel
    by_cases hlt : k < n
    · have hlI : (k : Int) < (n : Int) := by omega
      rw [← isJ_start L hlt] at hA
      replace hA := hidden hA
      replace hb := hidden hb
      go_wp2_with fail
      go_loopw [9] (fun i wr => IsRel2 L n k gb w0 i wr) (fun i _ => (RowKit.intOf i).toNat)
      case atStart => exact ⟨k, Nat.le_refl _, rfl, rfl, hA.out, hb.out⟩
      case round =>
        clear hA hb
        obtain ⟨j, hj, rfl, hins, hA, hb⟩ := hrel
        replace hins := hidden hins
        cases j with
        | zero =>
          have hend := hidden hA
          rw [isJ_end L (show insAt L (ordTo L k) k k = 0 by rw [hins.out]; rfl)] at hend
          have hs0 := hidden (show NumAt inTy wr.drew gb (nats (isL L n (k + 1))) ∧ Below w0.heap.size w0 wr.drew from ⟨hend.out.drew, hb.drew⟩)
          clear hA hend hins
          replace hb := hidden hb
          go_wp2_with fail
          refine wp_region_held_drew (S := fun W => NumAt inTy W gb (nats (isL L n (k + 1))) ∧ Below w0.heap.size w0 W) (by kernel_rfl) hs0.out (fun hHeld => ?_)
          refine take_plain 0 18 (.int .i64 0) rfl rfl (by kernel_rfl) (by kernel_rfl) (by kernel_rfl) (fun _ _ _ h => h) (by rfl) ?_ hHeld ?_
          · intro w hSw
            try dsimp only at hSw
            go_simp
          simp only [Act.put, List.setIfInBounds_toArray, List.set_cons_zero, List.set_cons_succ]
          refine take_plain 1 19 (.int .i64 0) rfl rfl (by kernel_rfl) (by kernel_rfl) (by kernel_rfl) (fun _ _ _ h => h) (by rfl) ?_ hHeld ?_
          · intro w hSw
            try dsimp only at hSw
            go_simp
          simp only [Act.put, List.setIfInBounds_toArray, List.set_cons_zero, List.set_cons_succ]
          refine take_plain 2 20 (.bool false) rfl rfl (by kernel_rfl) (by kernel_rfl) (by kernel_rfl) (fun _ _ _ h => h) (by rfl) ?_ hHeld ?_
          · intro w hSw
            try dsimp only at hSw
            go_simp
          simp only [Act.put, List.setIfInBounds_toArray, List.set_cons_zero, List.set_cons_succ]
          refine take_plain 3 21 (.bool false) rfl rfl (by kernel_rfl) (by kernel_rfl) (by kernel_rfl) (fun _ _ _ h => h) (by rfl) ?_ hHeld ?_
          · intro w hSw
            try dsimp only at hSw
            go_simp
          simp only [Act.put, List.setIfInBounds_toArray, List.set_cons_zero, List.set_cons_succ]
          refine take_struck 4 22 rfl rfl (by kernel_rfl) (by kernel_rfl) (by kernel_rfl) (fun _ _ _ h => h) (by rfl) hHeld ?_
          simp only [Act.put, List.setIfInBounds_toArray, List.set_cons_zero, List.set_cons_succ]
          refine take_struck 5 23 rfl rfl (by kernel_rfl) (by kernel_rfl) (by kernel_rfl) (fun _ _ _ h => h) (by rfl) hHeld ?_
          simp only [Act.put, List.setIfInBounds_toArray, List.set_cons_zero, List.set_cons_succ]
          refine take_struck 6 24 rfl rfl (by kernel_rfl) (by kernel_rfl) (by kernel_rfl) (fun _ _ _ h => h) (by rfl) hHeld ?_
          simp only [Act.put, List.setIfInBounds_toArray, List.set_cons_zero, List.set_cons_succ]
          refine take_struck 7 25 rfl rfl (by kernel_rfl) (by kernel_rfl) (by kernel_rfl) (fun _ _ _ h => h) (by rfl) hHeld ?_
          simp only [Act.put, List.setIfInBounds_toArray, List.set_cons_zero, List.set_cons_succ]
          refine take_struck 8 26 rfl rfl (by kernel_rfl) (by kernel_rfl) (by kernel_rfl) (fun _ _ _ h => h) (by rfl) hHeld ?_
          simp only [Act.put, List.setIfInBounds_toArray, List.set_cons_zero, List.set_cons_succ]
          refine take_struck 9 27 rfl rfl (by kernel_rfl) (by kernel_rfl) (by kernel_rfl) (fun _ _ _ h => h) (by rfl) hHeld ?_
          simp only [Act.put, List.setIfInBounds_toArray, List.set_cons_zero, List.set_cons_succ]
          refine take_struck 10 28 rfl rfl (by kernel_rfl) (by kernel_rfl) (by kernel_rfl) (fun _ _ _ h => h) (by rfl) hHeld ?_
          simp only [Act.put, List.setIfInBounds_toArray, List.set_cons_zero, List.set_cons_succ]
          refine take_struck 11 29 rfl rfl (by kernel_rfl) (by kernel_rfl) (by kernel_rfl) (fun _ _ _ h => h) (by rfl) hHeld ?_
          simp only [Act.put, List.setIfInBounds_toArray, List.set_cons_zero, List.set_cons_succ]
          refine take_struck 12 30 rfl rfl (by kernel_rfl) (by kernel_rfl) (by kernel_rfl) (fun _ _ _ h => h) (by rfl) hHeld ?_
          simp only [Act.put, List.setIfInBounds_toArray, List.set_cons_zero, List.set_cons_succ]
          refine take_struck 13 31 rfl rfl (by kernel_rfl) (by kernel_rfl) (by kernel_rfl) (fun _ _ _ h => h) (by rfl) hHeld ?_
          simp only [Act.put, List.setIfInBounds_toArray, List.set_cons_zero, List.set_cons_succ]
          refine take_struck 14 32 rfl rfl (by kernel_rfl) (by kernel_rfl) (by kernel_rfl) (fun _ _ _ h => h) (by rfl) hHeld ?_
          simp only [Act.put, List.setIfInBounds_toArray, List.set_cons_zero, List.set_cons_succ]
          refine take_struck 15 33 rfl rfl (by kernel_rfl) (by kernel_rfl) (by kernel_rfl) (fun _ _ _ h => h) (by rfl) hHeld ?_
          simp only [Act.put, List.setIfInBounds_toArray, List.set_cons_zero, List.set_cons_succ]
          refine take_plain 16 34 (.bool false) rfl rfl (by kernel_rfl) (by kernel_rfl) (by kernel_rfl) (fun _ _ _ h => h) (by rfl) ?_ hHeld ?_
          · intro w hSw
            try dsimp only at hSw
            go_simp
          simp only [Act.put, List.setIfInBounds_toArray, List.set_cons_zero, List.set_cons_succ]

          refine wpAnyH_done (by kernel_rfl) ?_ _
          have hEnd := hidden hHeld
          clear hHeld hs0
          go_wp2
          go_roundw
          case rel => exact ⟨k + 1, by omega, hlt, by go_num, hEnd.out.1, hEnd.out.2⟩
          case measure => simp [RowKit.intOf]; omega
        | succ p =>
          have hpk : p < k := by omega
          have hpn : p < n := by omega
          have cj := hA.cell (i := p + 1) (by rw [nats_len, isJ_len L hlt hj]; omega)
          have cp := hA.cell (i := p) (by rw [nats_len, isJ_len L hlt hj]; omega)
          rw [nats_at, isJ_at L hj] at cj
          rw [nats_at, isJ_prev L hpk] at cp
          have fj := hA.frozen (p + 1)
          have fp := hA.frozen p
          have hsl : (ordTo L k).getD p 0 < n := by have := ordTo_lt (L := L) hpk; omega
          have hd := hidden (hdear.out k ((ordTo L k).getD p 0) hlt hsl)
          have hCW := hidden (fun W hW => hC.out k ((ordTo L k).getD p 0) W hW hlt hsl)
          have hwp : IntKind.i64.wrap (((p + 1 : Nat) : Int) - 1) = (p : Int) := by rw [IntKind.wrap_i64]; omega
          have hpI : ((p + 1 : Nat) : Int) ≤ 8 ∧ 0 < ((p + 1 : Nat) : Int) := by omega
          have hsw := hidden (isJ_swap L (n := n) hpk)
          have hmore := hidden (fun h => @insAt_more L (ordTo L k) k p h)
          have hstop := hidden (fun h => @insAt_stop L (ordTo L k) k p h)
          generalize (ordTo L k).getD p 0 = q at *
          have hs0 := hidden (show IsS w0 gb (p + 1) p (k : Int) (q : Int) (nats (isJ L n k (p + 1))) wr from ⟨cj, cp, hA, hb⟩)
          have hA0 := hidden hA
          have hpj : ((p : Int) + 1) < (n : Int) := by omega
          have hpj2 : (p : Int) < (n : Int) := by omega
          have hp0 : (0 : Int) ≤ (p : Int) := by omega
          have hwq : IntKind.i64.wrap (p : Int) = (p : Int) := by rw [IntKind.wrap_i64]; omega
          have hp1 : (0 : Int) ≤ (p : Int) + 1 := by omega
          clear hC hdear hA hb cj cp
          generalize cmpR (L.getD k ltZ) (L.getD q ltZ) = r0 at *
          have hB1 := hidden (fun (h : r0 < 0) => show dear (L.getD q ltZ) (L.getD k ltZ) = true from by rw [← hd.out]; exact decide_eq_true h)
          have hB2 := hidden (fun (h : ¬ r0 < 0) => show dear (L.getD q ltZ) (L.getD k ltZ) = false from by rw [← hd.out]; exact decide_eq_false h)
          clear hd
          go_wp2_with fail
          go_region_held3 (fun W => W.cell? ⟨gb, p + 1, none⟩ = some (.int .i64 (k : Int)) ∧ W.cell? ⟨gb, p, none⟩ = some (.int .i64 (q : Int)) ∧ NumAt inTy W gb (nats (isJ L n k (p + 1))) ∧ Below w0.heap.size w0 W)
            ((first | exact isS_drew hs0.out | assumption | exact isS_next (by assumption) (by assumption)))
            ((go_at_call 91; (with_reducible refine (hCW.out _ (by first | exact hs0.out.2.2.2.drew | exact And.right (And.right (And.right (by assumption))))).mono ?_); rintro r w5 ⟨rfl, hb5⟩))
          rename_i hh
          obtain ⟨cj, cp, hA, hb⟩ := hh
          replace hb := hidden hb
          clear hs0 hCW
          by_cases hr0 : r0 < 0
          · have hm := hidden (hins.out.trans (hmore.out (hB1.out hr0)))
            clear hB1 hB2 hmore hstop hins hA0
            have fj := hA.frozen (p + 1)
            have fp := hA.frozen p
            have hA3 := hidden ((hA.set (p + 1) (q : Int)).set p (k : Int))
            rw [nats_set, nats_set, hsw.out] at hA3
            have hb3 := hidden ((hb.out.setCell (p := ⟨gb, p + 1, none⟩) (show w0.heap.size ≤ gb from Nat.le_of_eq hgb) (.int .i64 (q : Int))).setCell (p := ⟨gb, p, none⟩) (show w0.heap.size ≤ gb from Nat.le_of_eq hgb) (.int .i64 (k : Int)))
            clear hA hsw
            go_wp2_with fail
            go_region
            all_goals
              go_wp2
              go_roundw
              case rel => exact ⟨p, by omega, rfl, hm.out, hA3.out.drew, hb3.out.drew⟩
              case measure => simp [RowKit.intOf]
          · have hm := hidden (hins.out.trans (hstop.out (hB2.out (by omega))))
            rw [isJ_end L hm.out] at hA
            replace hA := hidden hA
            clear hB1 hB2 hmore hstop hins hA0
            go_wp2
            go_roundw
            case rel => exact ⟨k + 1, by omega, hlt, by go_num, hA.out, hb.out⟩
            case measure => simp [RowKit.intOf]; omega
    · obtain rfl : k = n := by omega
      rw [hfin.out, ← hordL.out] at hA
      replace hA := hidden hA
      replace hb := hidden hb
      go_wp2
      go_end0
      exact ⟨rfl, hA.out, hb.out⟩
end Go.Proofs.YtmihpgccdknhfaaDoor
namespace Go.Proofs.YtmihpgccdknhfaaDoor
open Go.RowKit
set_option linter.unusedVariables false

def SortAt (L : List Lt) (gb : Nat) (w0 : World) (e : Ending) (w' : World) : Prop := e = .returned (.tuple #[]) ∧ NumAt inTy w' gb (nats (ordL L)) ∧ Below w0.heap.size w0 w'
set_option maxRecDepth 100000 in
set_option maxHeartbeats 6400000 in
theorem stable_any (la : Option Addr) (lc g gb : Nat) (L : List Lt) (w0 w : World) (hr : Row ltV 4 w0 (.slice la L.length lc) L) (hbig : ∀ x ∈ L, ltBig x) (hv : ∀ x ∈ L, 0 ≤ x.v) (hg : w0.cell? ⟨g, 0, none⟩ = some (.slice la L.length lc)) (hgb : w0.heap.size = gb)
    (h1 : 1 ≤ L.length) (h8 : L.length ≤ 8) (hN : NumAt inTy w gb (nats (List.range L.length))) (hb : Below w0.heap.size w0 w) :
    Calls Tryd.prog 84 #[.slice (some ⟨gb, 0, none⟩) L.length L.length, .int .i64 (L.length : Int), .func (.func 91) #[] #[.pointer (some ⟨g, 0, none⟩)]] w (SortAt L gb w0) := by
  have hS := hidden (isort_any la lc g gb L w0 w hr hbig hv hg hgb h1 h8 hN hb)
  clear hr hbig hv hg hN hb
  unfold SortAt
  generalize L.length = n at *
  have hnI : (n : Int) ≤ 8 := by omega
  have hnL : ¬ (20 : Int) ≤ (n : Int) := by omega
  have hnM : ¬ (20 : Int) < (n : Int) := by omega
  go_enter Tryd.func84, Tryd.ntmps84
  go_wp2_with fail
  go_loopw [7, 8] (fun b c wr => b = .int .i64 0 ∧ c = .int .i64 20 ∧ w = wr) (fun _ _ _ => 0)
  case atStart => exact ⟨rfl, rfl, rfl⟩
  case round =>
    obtain ⟨rfl, rfl, rfl⟩ := hrel
    go_wp2_with fail
    (with_reducible refine hS.out.mono ?_)
    rintro e w5 ⟨rfl, hA, hb5⟩
    replace hA := hidden hA
    replace hb5 := hidden hb5
    clear hS
    go_wp2_with fail
    go_loopw [6] (fun a wr => a = .int .i64 20 ∧ w5 = wr) (fun _ _ => 0)
    case atStart => exact ⟨rfl, rfl⟩
    case round =>
      obtain ⟨rfl, rfl⟩ := hrel
      go_wp2
      go_end0
      exact ⟨rfl, hA.out, hb5.out⟩
set_option maxRecDepth 100000 in
set_option maxHeartbeats 6400000 in
theorem sortStable_any (la : Option Addr) (lc g gb : Nat) (L : List Lt) (w0 w : World) (hr : Row ltV 4 w0 (.slice la L.length lc) L) (hbig : ∀ x ∈ L, ltBig x) (hv : ∀ x ∈ L, 0 ≤ x.v) (hg : w0.cell? ⟨g, 0, none⟩ = some (.slice la L.length lc)) (hgb : w0.heap.size = gb)
    (h1 : 1 ≤ L.length) (h8 : L.length ≤ 8) (hN : NumAt inTy w gb (nats (List.range L.length))) (hb : Below w0.heap.size w0 w) :
    Calls Tryd.prog 68 #[.slice (some ⟨gb, 0, none⟩) L.length L.length, .func (.func 91) #[] #[.pointer (some ⟨g, 0, none⟩)]] w (SortAt L gb w0) := by
  have hS := hidden (stable_any la lc g gb L w0 w hr hbig hv hg hgb h1 h8 hN hb)
  clear hr hbig hv hg hN hb
  unfold SortAt at hS ⊢
  generalize L.length = n at *
  go_enter Tryd.func68, Tryd.ntmps68
  go_wp2_with fail
  (with_reducible refine hS.out.mono ?_)
  rintro e w5 ⟨rfl, hA, hb5⟩
  replace hA := hidden hA
  replace hb5 := hidden hb5
  clear hS
  go_wp2
  go_end0
  exact ⟨rfl, hA.out, hb5.out⟩
def ChRel (n gb p : Nat) (lv : Value) (w0 : World) (i : Value) (w : World) : Prop :=
  ∃ k : Nat, k ≤ n ∧ i = .int .i64 (k : Int) ∧ NumAt inTy w gb (fillL (nats (List.range n)) k) ∧ Below w0.heap.size w0 w
theorem natr_at (n k : Nat) (h : k < n) : (nats (List.range n)).getD k 0 = (k : Int) := by
  rw [nats_at, List.getD_eq_getElem?_getD, List.getElem?_range h]
  rfl
abbrev lsTy : TypeId := 22
def ChAt (L : List Lt) (w : World) (e : Ending) (w' : World) : Prop := ∃ g, e = .returned (.slice (some ⟨g, 0, none⟩) L.length L.length) ∧ w.heap.size ≤ g ∧ NumAt inTy w' g (nats (ordL L)) ∧ Below w.heap.size w w'
set_option maxRecDepth 100000 in
set_option maxHeartbeats 6400000 in
theorem cheapest_any (lv : Value) (L : List Lt) (w : World) (hr : Row ltV 4 w lv L) (hbig : ∀ x ∈ L, ltBig x) (hv : ∀ x ∈ L, 0 ≤ x.v) (h1 : 1 ≤ L.length) (h8 : L.length ≤ 8) :
    Calls Tryd.prog 85 #[lv] w (ChAt L w) := by
  have hmf : ∀ (fn : Fn) (first cap : Array Value) (w : World), (Instr.makeFunc fn first cap).run Tryd.prog w = .ok (.func fn first cap) w := fun _ _ _ _ => rfl
  obtain ⟨la, lc, rfl⟩ := row_slice hr
  have hb0 : Below w.heap.size w (w.alloc (.cells #[.slice la L.length lc] lsTy)) := (Below.refl _ w).alloc (Nat.le_refl _) _
  have hgb : (w.alloc (.cells #[.slice la L.length lc] lsTy)).heap.size = w.heap.size + 1 := by simp
  have hg : (w.alloc (.cells #[.slice la L.length lc] lsTy)).cell? ⟨w.heap.size, 0, none⟩ = some (.slice la L.length lc) := by rw [cell_of_row _ _ _ _ _ _ (heap_alloc_new w (.cells #[.slice la L.length lc] lsTy))]; rfl
  have hS := hidden (fun W => sortStable_any la lc w.heap.size (w.heap.size + 1) L (w.alloc (.cells #[.slice la L.length lc] lsTy)) W (hr.below ltV_len hb0 (Nat.le_refl _)) hbig hv hg hgb h1 h8)
  unfold SortAt at hS
  unfold ChAt
  have hmk := mk_ints18 L.length (by omega)
  have hn := hidden (numAt_new inTy (w.alloc (.cells #[.slice la L.length lc] lsTy)) L.length)
  have hbA := (Below.refl (w.alloc (.cells #[.slice la L.length lc] lsTy)).heap.size (w.alloc (.cells #[.slice la L.length lc] lsTy))).alloc (Nat.le_refl _) (.cells (Array.replicate L.length (.int .i64 0)) inTy)
  have hg2 : ((w.alloc (.cells #[.slice la L.length lc] lsTy)).alloc (.cells (Array.replicate L.length (.int .i64 0)) inTy)).cell? ⟨w.heap.size, 0, none⟩ = some (.slice la L.length lc) := by
    rw [World.cell?_of_block (hbA.block w.heap.size (by simp))]; exact hg
  have hst : NumAt inTy ((w.alloc (.cells #[.slice la L.length lc] lsTy)).alloc (.cells (Array.replicate L.length (.int .i64 0)) inTy)) (w.heap.size + 1) (fillL (nats (List.range L.length)) 0) := by
    unfold fillL
    rw [nats_len, List.length_range]
    simpa using hn.out
  replace hst := hidden hst
  replace hbA := hidden hbA
  replace hb0 := hidden hb0
  replace hgb := hidden hgb
  have hfs := hidden (fun k h => fillL_set (nats (List.range L.length)) k h)
  have hfe := hidden (show fillL (nats (List.range L.length)) L.length = nats (List.range L.length) by have := fillL_end (nats (List.range L.length)); rwa [nats_len, List.length_range] at this)
  have hnl := hidden (show (nats (List.range L.length)).length = L.length by rw [nats_len, List.length_range])
  have hfn := hidden (fun k h => fillL_len (nats (List.range L.length)) (k := k) h)
  have hna := hidden (fun k h => natr_at L.length k h)
  have hlI : (L.length : Int) ≤ 8 := by omega
  clear hr hbig hv hn
  go_enter Tryd.func85, Tryd.ntmps85
  go_wp2_with fail
  go_loopw [10] (fun i wr => ChRel L.length (w.heap.size + 1) w.heap.size (.slice la L.length lc) (w.alloc (.cells #[.slice la L.length lc] lsTy)) i wr) (fun i _ => L.length - (RowKit.intOf i).toNat)
  case atStart => exact ⟨0, Nat.zero_le _, rfl, hst.out, hbA.out⟩
  case round =>
    clear hst hbA hg hg2
    obtain ⟨k, hk, rfl, hA, hb3⟩ := hrel
    by_cases hlt : k < L.length
    · have hkI : (k : Int) < (L.length : Int) := by omega
      have cg := hA.cell (i := k) (by rw [hfn.out k (by rw [hnl.out]; omega), hnl.out]; exact hlt)
      have fg := hA.frozen k
      have hA3 := hidden (hA.set k ((nats (List.range L.length)).getD k 0))
      rw [hfs.out k (by rw [hnl.out]; exact hlt), hna.out k hlt] at hA3
      generalize (fillL (nats (List.range L.length)) k).getD k 0 = z at *
      have hbn := hidden (hb3.setCell (p := ⟨w.heap.size + 1, k, none⟩) (Nat.le_of_eq hgb.out) (.int .i64 (k : Int)))
      clear hA hb3
      go_wp2
      go_roundw
      case rel => exact ⟨k + 1, hlt, by go_num, hA3.out, hbn.out⟩
      case measure => simp [RowKit.intOf]; omega
    · obtain rfl : k = L.length := by omega
      rw [hfe.out] at hA
      have hS2 := hidden (hS.out _ hA hb3)
      clear hS hA hb3
      go_wp2_with fail
      (with_reducible refine hS2.out.mono ?_)
      rintro e w5 ⟨rfl, hA5, hb5⟩
      replace hA5 := hidden hA5
      replace hb5 := hidden (hb0.out.trans (hb5.mono hb0.out.size))
      clear hS2
      go_wp2
      go_ret
      exact ⟨_, rfl, Nat.le_succ _, hA5.out, hb5.out⟩
end Go.Proofs.YtmihpgccdknhfaaDoor
namespace Go.Proofs.YtmihpgccdknhfaaDoor
open Go.RowKit
set_option linter.unusedVariables false

def grB (L : List Lt) (C : List Int) (n : Int) : Bool := decide (OkP L C n) && !decide ((gR L C n).2 < n)
def grL (L : List Lt) (C : List Int) (n : Int) : List Int := if grB L C n = true then (gR L C n).1 else []
theorem grB_bad {L : List Lt} {C : List Int} {n : Int} (h : ¬ OkP L C n) : grB L C n = false := by unfold grB; rw [decide_eq_false h]; rfl
theorem grB_less {L : List Lt} {C : List Int} {n : Int} (h : (gR L C n).2 < n) : grB L C n = false := by unfold grB; rw [decide_eq_true h]; simp
theorem grB_fine {L : List Lt} {C : List Int} {n : Int} (h : OkP L C n) (g : ¬ (gR L C n).2 < n) : grB L C n = true := by unfold grB; rw [decide_eq_true h, decide_eq_false g]; rfl
theorem grL_no {L : List Lt} {C : List Int} {n : Int} (h : grB L C n = false) : grL L C n = [] := by unfold grL; rw [h]; rfl
theorem grL_yes {L : List Lt} {C : List Int} {n : Int} (h : grB L C n = true) : grL L C n = (gR L C n).1 := by unfold grL; rw [h]; rfl
theorem ret_vb {v : Value} {a b : Bool} (h : a = b) : Ending.returned (.tuple #[v, .bool a]) = .returned (.tuple #[v, .bool b]) := by rw [h]
structure GrAt (w0 : World) (T : TypeId) (p tg og : Nat) (lv cv : Value) (n : Int) (t : List Int) (o : List Nat) (N : Nat) (w : World) : Prop where
  pb : PbAt w p T lv cv n
  tk : NumAt inTy w tg t
  od : Reads .i64 w (.slice (some ⟨og, 0, none⟩) N N) (nats o)
  low : Below w0.heap.size w0 w
  ne1 : p ≠ tg
  ne2 : og ≠ tg
  hi : w0.heap.size ≤ tg
section
variable {w0 w w' : World} {T : TypeId} {p tg og : Nat} {lv cv : Value} {n : Int} {t : List Int} {o : List Nat} {N : Nat}
theorem GrAt.below (h : GrAt w0 T p tg og lv cv n t o N w) (hb : Below w.heap.size w w') : GrAt w0 T p tg og lv cv n t o N w' :=
  ⟨h.pb.below hb (Nat.le_refl _), h.tk.below hb (Nat.le_refl _), h.od.below hb (Nat.le_refl _), h.low.trans (hb.mono h.low.size), h.ne1, h.ne2, h.hi⟩
theorem GrAt.drewN (h : GrAt w0 T p tg og lv cv n t o N w) (k : Nat) : GrAt w0 T p tg og lv cv n t o N (w.drewN k) :=
  ⟨⟨h.pb.row⟩, h.tk, h.od.same fun _ _ => rfl, below_drewN h.low, h.ne1, h.ne2, h.hi⟩
theorem GrAt.put (h : GrAt w0 T p tg og lv cv n t o N w) (i : Nat) (x : Int) : GrAt w0 T p tg og lv cv n (t.set i x) o N (w.setCell ⟨tg, i, none⟩ (.int .i64 x)) :=
  ⟨⟨by rw [(Trd.setCell (S := (· = tg)) w ⟨tg, i, none⟩ (.int .i64 x) rfl).block p h.pb.lt h.ne1]; exact h.pb.row⟩, h.tk.set i x,
    h.od.trd (Trd.setCell (S := (· = tg)) w ⟨tg, i, none⟩ (.int .i64 x) rfl) (fun b hb => by
      have : og = b := by simpa [Value.ownBlock] using hb
      rw [← this]; exact h.ne2), h.low.setCell (p := ⟨tg, i, none⟩) h.hi _, h.ne1, h.ne2, h.hi⟩
end
def GrRel1 (L : List Lt) (C : List Int) (w0 : World) (p tg og : Nat) (lv cv : Value) (n : Int) (o : List Nat) (N : Nat) (i h : Value) (w : World) : Prop :=
  ∃ (k : Nat) (s : List Int × Int), k ≤ o.length ∧ i = .int .i64 (k : Int) ∧ h = .int .i64 s.2 ∧ gAll L C n (o.drop k) s = gR L C n ∧ GInv L C n s ∧ GrAt w0 pbTy p tg og lv cv n s.1 o N w
def GrRel2 (L : List Lt) (C : List Int) (w0 : World) (p tg og : Nat) (lv cv : Value) (n : Int) (o : List Nat) (N : Nat) (i : Nat) (s0 : List Int × Int) (h : Value) (w : World) : Prop :=
  ∃ (f : Nat) (s : List Int × Int), h = .int .i64 s.2 ∧ (L.getD i ltZ).u - s.1.getD i 0 ≤ (f : Int) ∧ gl L C n i f s = s0 ∧ GInv L C n s ∧ GrAt w0 pbTy p tg og lv cv n s.1 o N w
theorem gAll_step {L : List Lt} {C : List Int} {n : Int} {o : List Nat} {k : Nat} (hk : k < o.length) (s : List Int × Int) : gAll L C n (o.drop k) s = gAll L C n (o.drop (k + 1)) (gl L C n (o.getD k 0) 1000 s) := by
  rw [List.drop_eq_getElem_cons hk, List.getD_eq_getElem?_getD, List.getElem?_eq_getElem hk]
  rfl
def GreedyAt (L : List Lt) (C : List Int) (n : Int) (w : World) (e : Ending) (w' : World) : Prop := ∃ v, e = .returned (.tuple #[v, .bool (grB L C n)]) ∧ Reads .i64 w' v (grL L C n) ∧ Below w.heap.size w w'
/-- .. and that what is taken lies in a block of its own. -/
def GreedyOwn (L : List Lt) (C : List Int) (n : Int) (w : World) (e : Ending) (w' : World) : Prop := ∃ v, e = .returned (.tuple #[v, .bool (grB L C n)]) ∧ (grB L C n = true → ∃ g, v = .slice (some ⟨g, 0, none⟩) L.length L.length ∧ w.heap.size ≤ g ∧ NumAt inTy w' g (grL L C n)) ∧ (grB L C n = false → Reads .i64 w' v (grL L C n)) ∧ Below w.heap.size w w'
theorem gAll_end {L : List Lt} {C : List Int} {n : Int} {o : List Nat} (s : List Int × Int) : gAll L C n (o.drop o.length) s = s := by rw [List.drop_length]; rfl
theorem ok_vals {L : List Lt} {C : List Int} {n : Int} (h : OkP L C n) : ∀ x ∈ L, 0 ≤ x.v := fun x hx => (h.2.1 x hx).2.1.1
theorem fill_zero (n : Nat) : fillL (List.replicate n 0) 0 = List.replicate n 0 := by unfold fillL; simp
set_option maxRecDepth 100000 in
set_option maxHeartbeats 12800000 in
theorem ltGreedy_own (A : Nat → Addr) (lv cv : Value) (L : List Lt) (C : List Int) (n : Int) (w : World) (h : PbR w lv cv L C) (hE : ErrsOn [2, 4] w A) :
    Calls Tryd.prog 70 #[pbA lv cv n] w (GreedyOwn L C n w) := by
  have hb0 := below_pb w pbTy lv cv n
  have hV := hidden (ltValid_any A lv cv L C n _ (h.below hb0 (Nat.le_refl _)) (hE.below hb0 (Nat.le_refl _)))
  have hpb := pbAt_new w pbTy lv cv n
  have hp := hidden (fun W (hW : Below (w.alloc (pbO pbTy lv cv n)).heap.size (w.alloc (pbO pbTy lv cv n)) W) => hpb.below hW (Nat.le_refl _))
  have hb := hidden hb0
  unfold GreedyOwn
  by_cases hok : OkP L C n
  · rw [pbC_ok hok, errOf_fine] at hV
    have hWo := hidden (fun tv t W (h2 : Below w.heap.size w W) hr ht => ltWorth_any lv cv L C n tv t W (h.below h2 (Nat.le_refl _)) hr hok ht)
    have hCh := hidden (fun W (h2 : Below w.heap.size w W) => cheapest_any lv L W (h.lots.below ltV_len h2 (Nat.le_refl _)) h.big (ok_vals hok) hok.1.1.1 hok.1.1.2)
    obtain ⟨la, lc, rfl⟩ := row_slice h.lots
    obtain ⟨ca, cc, rfl⟩ := reads_slice h.caps
    have hx := hidden (fun k hk W (h2 : Below w.heap.size w W) => rowLt_at (h.lots.below ltV_len h2 (Nat.le_refl _)) k hk)
    have hL8 := hok.1.1.2
    have hL8I : (L.length : Int) ≤ 8 := by omega
    have hmk := mk_ints18 L.length (by omega)
    have hok' := hidden hok
    unfold ChAt at hCh
    clear h hE hb0 hpb hok
    go_enter Tryd.func70, Tryd.ntmps70
    go_wp2_with fail
    (with_reducible refine hV.out.mono ?_)
    rintro e w1 ⟨rfl, hb1⟩
    have hp1 := hp.out _ hb1
    obtain ⟨c0, c1, c2⟩ := hp1.cells
    have hb2 := hidden (hb.out.trans (hb1.mono hb.out.size))
    have hbA := (Below.refl w1.heap.size w1).alloc (Nat.le_refl _) (.cells (Array.replicate L.length (.int .i64 0)) inTy)
    have hp2 := hp1.below hbA (Nat.le_refl _)
    obtain ⟨d0, d1, d2⟩ := hp2.cells
    have hb3 := hidden (hb2.out.trans (hbA.mono hb2.out.size))
    have hC2 := hidden (hCh.out _ hb3.out)
    have hNw := hidden (numAt_new inTy w1 L.length)
    have hpw := hidden (show w.heap.size < w1.heap.size by have := hp1.lt; exact this)
    replace hp2 := hidden hp2
    clear hV hb1 hp hCh hp1 hbA
    go_wp2_with fail
    (with_reducible refine hC2.out.mono ?_)
    rintro e w2 ⟨og, rfl, hog, hO, hb4⟩
    have hol := hidden (show (ordL L).length = L.length from ordTo_len L _)
    have hst : GrAt w pbTy w.heap.size w1.heap.size og (.slice la L.length lc) (.slice ca C.length cc) n (gSt L).1 (ordL L) L.length w2 := by
      refine ⟨hp2.out.below hb4 (Nat.le_refl _), hNw.out.below hb4 (Nat.le_refl _), ?_, hb3.out.trans (hb4.mono hb3.out.size), by have := hpw.out; omega, ?_, Nat.le_of_lt hpw.out⟩
      · exact hO.reads (by rw [nats_len, hol.out]) (by omega)
      · have : (w1.alloc (.cells (Array.replicate L.length (.int .i64 0)) inTy)).heap.size = w1.heap.size + 1 := by simp
        omega
    have hlt := hidden (fun k (hk : k < (ordL L).length) => show (ordL L).getD k 0 < L.length from ordTo_lt (by rw [hol.out] at hk; exact hk))
    have hgo := hidden (show gAll L C n (ordL L) (gSt L) = gR L C n from rfl)
    have hgi := hidden (ginv_start hok'.out)
    replace hst := hidden hst
    clear hC2 hNw hb3 hb4 hO hog hp2 hb2 c0 c1 c2 d0 d1 d2 hb
    generalize ordL L = o at *
    generalize w1.heap.size = tg at *
    go_wp2_with fail
    go_loopw [20, 5] (fun i h wr => GrRel1 L C w w.heap.size tg og (.slice la L.length lc) (.slice ca C.length cc) n o L.length i h wr) (fun i _ _ => o.length - (RowKit.intOf i).toNat)
    case atStart => exact ⟨0, gSt L, Nat.zero_le _, rfl, rfl, hgo.out, hgi.out, hst.out⟩
    case round =>
      clear hst hgo hgi
      obtain ⟨k, s, hk, rfl, rfl, hgo, hgi, hG⟩ := hrel
      by_cases hkl : k < o.length
      · have hkI : (k : Int) < (L.length : Int) := by rw [hol.out] at hkl; omega
        have hil := hlt.out k hkl
        rw [gAll_step hkl] at hgo
        obtain ⟨bo, oo, eo, co⟩ := hG.od.cell k (by rw [← hol.out]; exact hkl)
        simp only [Option.some.injEq, Addr.mk.injEq, and_true] at eo
        obtain ⟨rfl, rfl⟩ := eo
        rw [nats_at, Nat.zero_add] at co
        generalize o.getD k 0 = i at *
        have hlot := hidden (hok'.out.lot hil)
        have hgs := hidden (ginv_gl hok'.out hil 1000 s hgi)
        have hst : GrRel2 L C w w.heap.size tg og (.slice la L.length lc) (.slice ca C.length cc) n o L.length i (gl L C n i 1000 s) (.int .i64 s.2) wr := ⟨1000, s, rfl, by have := hlot.out.1; have := (hgi.1.2 i hil).1; omega, rfl, hgi, hG⟩
        replace hst := hidden hst
        generalize gl L C n i 1000 s = s0 at *
        replace hgo := hidden hgo
        clear hgi hG
        have hiI : (i : Int) < (L.length : Int) := by omega
        have hi0 : (0 : Int) ≤ (i : Int) := by omega
        go_wp2_with fail
        go_loopw [5] (fun h wr => GrRel2 L C w w.heap.size tg og (.slice la L.length lc) (.slice ca C.length cc) n o L.length i s0 h wr) (fun h _ => (n - RowKit.intOf h).toNat)
        case atStart => exact hst.out
        case round =>
          clear hst
          obtain ⟨f, ⟨t, hh⟩, rfl, hf, hgl, hgi, hG⟩ := hrel
          simp only at hf
          replace hG : GrAt w pbTy w.heap.size tg og (.slice la L.length lc) (.slice ca C.length cc) n t o L.length wr := hG
          have hout := hidden (fun (q : gl L C n i f (t, hh) = (t, hh)) wx (hGx : GrAt w pbTy w.heap.size tg og (.slice la L.length lc) (.slice ca C.length cc) n t o L.length wx) => show GrRel1 L C w w.heap.size tg og (.slice la L.length lc) (.slice ca C.length cc) n o L.length (.int .i64 ((k + 1 : Nat) : Int)) (.int .i64 hh) wx from by
            rw [q] at hgl
            exact ⟨k + 1, (t, hh), hkl, rfl, rfl, by rw [← hgl] at hgo; exact hgo.out, hgi, hGx⟩)
          obtain ⟨c0, c1, c2⟩ := hG.pb.cells
          have hGd := hidden (fun m => hG.drewN m)
          by_cases hc1 : hh < n
          · have hd1 : decide (hh < n) = true := decide_eq_true hc1
            have hti := hgi.1.2 i hil
            simp only at hti
            have hti1 : i < t.length := by have := hgi.1.1; simp only at this; omega
            obtain ⟨bl, ol, rfl, q0, q1, q2, q3⟩ := hx.out i hil _ hG.low
            have ct := hG.tk.cell hti1
            have hfr := hG.tk.frozen i
            by_cases hc2 : t.getD i 0 < (L.getD i ltZ).u
            · have hcc : ((t, hh) : List Int × Int).2 < n ∧ ((t, hh) : List Int × Int).1.getD i 0 < (L.getD i ltZ).u := ⟨hc1, hc2⟩
              have hgp := hidden (ginv_plus hok'.out hgi hil hcc)
              have htp := hgp.out.1
              have hup := wo_up hok'.out hgi.1.1 hil
              have heq := hgi.2.1
              simp only at htp hup heq
              have hW2 := hidden (fun W (hGW : GrAt w pbTy w.heap.size tg og (.slice (some ⟨bl, ol, none⟩) L.length lc) (.slice ca C.length cc) n (plus t i) o L.length W) => hWo.out (.slice (some ⟨tg, 0, none⟩) L.length L.length) (plus t i) W hGW.low (hGW.tk.reads (by rw [plus_len]; exact hgi.1.1) (by omega)) htp)
              have hGp := hidden (fun m => (hG.drewN m).put i (t.getD i 0 + 1))
              have hwt : IntKind.i64.wrap (t.getD i 0 + 1) = t.getD i 0 + 1 := by have := hlot.out.1; rw [IntKind.wrap_i64]; omega
              have hpa := hidden (show (plus t i).getD i 0 = t.getD i 0 + 1 by rw [plus_at hti1, if_pos rfl])
              have hpl := hidden (show i < (plus t i).length by rw [plus_len]; exact hti1)
              have hwm : IntKind.i64.wrap (t.getD i 0 + 1 - 1) = t.getD i 0 := by have := hlot.out.1; rw [IntKind.wrap_i64]; omega
              have hd2 : decide (t.getD i 0 < (L.getD i ltZ).u) = true := decide_eq_true hc2
              have hpe := hidden (show t.set i (t.getD i 0 + 1) = plus t i from rfl)
              rw [hpe.out] at hGp
              have hb1 := hidden (show (plus t i).set i (t.getD i 0) = t from set_back t i _ hti1)
              have htlen := hidden (hgi.1.1)
              simp only at htlen
              have hgl2 := hidden (fun (q : ¬ wo L C (plus t i) ≤ hh) => gl_go (L := L) (C := C) (n := n) (i := i) (f := f - 1) (s := (t, hh)) hcc q)
              have hf1 : 1 ≤ f := by have := hlot.out.1; omega
              have hfe : f - 1 + 1 = f := by omega
              rw [hfe] at hgl2
              have e0 := fun m => ((hGp.out m).pb.cells).1
              have e1 := fun m => ((hGp.out m).pb.cells).2.1
              have e2 := fun m => ((hGp.out m).pb.cells).2.2
              have hw64 : wrap64 (t.getD i 0) = t.getD i 0 := by have := hlot.out.1; unfold wrap64; omega
              clear hG hWo hx hti
              by_cases hw : wo L C (plus t i) ≤ hh
              · have hq := hidden (hout.out (gl_full hcc hw))
                have hwe : (wo L C (plus t i) == hh) = true := by rw [beq_iff_eq]; omega
                clear hout hgl hgi hgl2 htp hup heq
                generalize wo L C (plus t i) = wo1 at *
                generalize plus t i = t1 at *
                generalize t.getD i 0 = x at *
                generalize L.getD i ltZ = y at *
                obtain ⟨u, v, c, gg⟩ := y
                simp only at q0 q1 q2 q3 hd2
                go_wp2_with fail
                go_quiet (fail)
                go_wp2_with fail
                (with_reducible refine (hW2.out _ (hGp.out _)).mono ?_)
                rintro e w5 ⟨rfl, hb5⟩
                have hG5 := (hGp.out _).below hb5
                have ct5 := hG5.tk.cell hpl.out
                rw [hpa.out] at ct5
                have fr5 := hG5.tk.frozen i
                have hG6 := hidden (hG5.put i x)
                rw [hb1.out] at hG6
                clear hW2 hGp hb5 hG5 e0 e1 e2 ct hfr c0 c1 c2 q0 q1 q2 q3
                go_wp2_with fail
                go_roundw
                case rel => exact hq.out _ hG6.out
                case measure => simp [RowKit.intOf]; omega
              · have hwe : (wo L C (plus t i) == hh) = false := by rw [beq_eq_false_iff_ne]; omega
                rw [hgl2.out hw] at hgl
                have hnx := hidden (fun wx (hGx : GrAt w pbTy w.heap.size tg og (.slice (some ⟨bl, ol, none⟩) L.length lc) (.slice ca C.length cc) n (plus t i) o L.length wx) => show GrRel2 L C w w.heap.size tg og (.slice (some ⟨bl, ol, none⟩) L.length lc) (.slice ca C.length cc) n o L.length i s0 (.int .i64 (wo L C (plus t i))) wx from ⟨f - 1, (plus t i, wo L C (plus t i)), rfl, by show _ - (plus t i).getD i 0 ≤ _; rw [hpa.out]; omega, hgl, hgp.out, hGx⟩)
                clear hout hgl hgi hgl2 htp hup heq hgp
                generalize wo L C (plus t i) = wo1 at *
                generalize plus t i = t1 at *
                generalize t.getD i 0 = x at *
                generalize L.getD i ltZ = y at *
                obtain ⟨u, v, c, gg⟩ := y
                simp only at q0 q1 q2 q3 hd2
                go_wp2_with fail
                go_quiet (fail)
                go_wp2_with fail
                (with_reducible refine (hW2.out _ (hGp.out _)).mono ?_)
                rintro e w5 ⟨rfl, hb5⟩
                have hG5 := hidden ((hGp.out _).below hb5)
                clear hW2 hGp hb5 e0 e1 e2 ct hfr c0 c1 c2 q0 q1 q2 q3
                go_wp2_with fail
                go_roundw
                case rel => exact hnx.out _ hG5.out
                case measure => simp [RowKit.intOf]; omega
            · have hq := hidden (hout.out (gl_stop (by simp only; omega)))
              have hd2 : decide (t.getD i 0 < (L.getD i ltZ).u) = false := decide_eq_false hc2
              clear hout hgi hgl hG
              generalize t.getD i 0 = x at *
              generalize L.getD i ltZ = y at *
              obtain ⟨u, v, c, gg⟩ := y
              simp only at q0 q1 q2 q3 hc2 hd2
              go_wp2_with fail
              go_quiet (fail)
              go_wp2
              go_roundw
              case rel => exact hq.out _ (hGd.out _)
              case measure => simp [RowKit.intOf]; omega
          · have hq := hidden (hout.out (gl_stop (by simp only; omega)))
            have hd1 : decide (hh < n) = false := decide_eq_false hc1
            clear hout hgi hgl hG
            go_wp2_with fail
            go_quiet (fail)
            go_wp2
            go_roundw
            case rel => exact hq.out _ (hGd.out _)
            case measure => simp [RowKit.intOf]; omega
      · obtain rfl : k = o.length := by omega
        rw [gAll_end] at hgo
        subst hgo
        have hkI : ¬ ((o.length : Nat) : Int) < (L.length : Int) := by rw [hol.out]; omega
        obtain ⟨c0, c1, c2⟩ := hG.pb.cells
        by_cases hn : (gR L C n).2 < n
        · have hno := hidden (grB_less hn)
          have hend := hidden hG.low
          clear hG hgi
          generalize (gR L C n).2 = r2 at hn ⊢
          go_wp2
          go_ret2
          exact ⟨_, ret_vb hno.out.symm, (fun z => by rw [hno.out] at z; cases z), (fun _ => by rw [grL_no hno.out]; exact Reads.nil _ _), hend.out⟩
        · have hno := hidden (grB_fine hok'.out hn)
          have hend := hidden hG.low
          have hR := hidden hG.tk
          have hhi := hidden hG.hi
          clear hG hgi
          generalize (gR L C n).2 = r2 at hn ⊢
          go_wp2
          go_ret2
          exact ⟨_, ret_vb hno.out.symm, (fun _ => ⟨_, rfl, hhi.out, by rw [grL_yes hno.out]; exact hR.out⟩), (fun z => by rw [hno.out] at z; cases z), hend.out⟩
  · rw [grL_no (grB_bad hok), grB_bad hok]
    have hw := pbC_ways L C n
    have hne : pbC L C n ≠ 0 := fun q => hok (pbC_iff.1 q)
    generalize pbC L C n = c at *
    clear hok h hE hp hpb hb0
    rcases hw with q | rfl | rfl
    · exact absurd q hne
    · rw [errOf_103] at hV
      go_enter Tryd.func70, Tryd.ntmps70
      go_wp2_with fail
      (with_reducible refine hV.out.mono ?_)
      rintro e w1 ⟨rfl, hb1⟩
      have hb2 := hidden (hb.out.trans (hb1.mono hb.out.size))
      clear hV hb1
      go_wp2
      go_ret2
      exact ⟨_, rfl, (fun z => by cases z), (fun _ => Reads.nil _ _), hb2.out⟩
    · rw [errOf_105] at hV
      go_enter Tryd.func70, Tryd.ntmps70
      go_wp2_with fail
      (with_reducible refine hV.out.mono ?_)
      rintro e w1 ⟨rfl, hb1⟩
      have hb2 := hidden (hb.out.trans (hb1.mono hb.out.size))
      clear hV hb1
      go_wp2
      go_ret2
      exact ⟨_, rfl, (fun z => by cases z), (fun _ => Reads.nil _ _), hb2.out⟩
theorem ltGreedy_any (A : Nat → Addr) (lv cv : Value) (L : List Lt) (C : List Int) (n : Int) (w : World) (h : PbR w lv cv L C) (hE : ErrsOn [2, 4] w A) :
    Calls Tryd.prog 70 #[pbA lv cv n] w (GreedyAt L C n w) := by
  refine (ltGreedy_own A lv cv L C n w h hE).mono ?_
  rintro e w' ⟨v, rfl, h1, h2, hb⟩
  refine ⟨v, rfl, ?_, hb⟩
  cases hB : grB L C n
  · exact h2 hB
  · obtain ⟨g, rfl, hg, hN⟩ := h1 hB
    have hok : OkP L C n := by
      apply Decidable.byContradiction
      intro hh
      rw [grB_bad hh] at hB
      cases hB
    have hl : (grL L C n).length = L.length := by rw [grL_yes hB]; exact (ginv_R hok).1.1
    exact hN.reads hl (by have := hok.1.1.2; omega)
end Go.Proofs.YtmihpgccdknhfaaDoor
