/-
  cmp.Compare, cmp.Or at int; rec.Less; pledgeref.Ahead.
-/
import Derived.Test.YtjmpmlacaoelgaaDoorRec2
import Derived.Test.YtjmpmlacaoelgaaDoorSameBytes
namespace Go.Proofs.YtjmpmlacaoelgaaDoor
open Go.RowKit
set_option linter.unusedVariables false

/-- -1, 0 or 1. -/
def sgv (x y : Int) : Int := if x < y then -1 else if y < x then 1 else 0
theorem sgv_lt {x y : Int} (h : x < y) : sgv x y = -1 := if_pos h
theorem sgv_gt {x y : Int} (h : y < x) : sgv x y = 1 := by unfold sgv; rw [if_neg (by omega), if_pos h]
theorem sgv_eq (x : Int) : sgv x x = 0 := by unfold sgv; rw [if_neg (by omega), if_neg (by omega)]
theorem nanInt_any (x : Int) (w : World) : Calls Tryd.prog 47 #[.int .i64 x] w fun e w' => e = .returned (.bool false) ∧ w = w' := by
  go_enter Tryd.func47, Tryd.ntmps47
  go_wp2
  go_ret
  exact ⟨rfl, rfl⟩
theorem cmpInt_any (x y : Int) (w : World) :
    Calls Tryd.prog 40 #[.int .i64 x, .int .i64 y] w fun e w' => e = .returned (.int .i64 (sgv x y)) ∧ w = w' := by
  rcases Int.lt_trichotomy x y with h | h | h
  · have hc := hidden (sgv_lt h)
    go_enter Tryd.func40, Tryd.ntmps40
    go_wp2_with (go_at_call 47; refine (nanInt_any _ _).mono ?_; rintro e w' ⟨rfl, rfl⟩)
    go_ret
    exact ⟨ret_int hc.out.symm, rfl⟩
  · subst h
    have hc := hidden (sgv_eq x)
    go_enter Tryd.func40, Tryd.ntmps40
    go_wp2_with (go_at_call 47; refine (nanInt_any _ _).mono ?_; rintro e w' ⟨rfl, rfl⟩)
    go_ret
    exact ⟨ret_int hc.out.symm, rfl⟩
  · have hc := hidden (sgv_gt h)
    have h2 : ¬ x < y := by omega
    go_enter Tryd.func40, Tryd.ntmps40
    go_wp2_with (go_at_call 47; refine (nanInt_any _ _).mono ?_; rintro e w' ⟨rfl, rfl⟩)
    go_ret
    exact ⟨ret_int hc.out.symm, rfl⟩

/-- the first that is not 0. -/
def orL : List Int → Int
  | [] => 0
  | x :: l => if x = 0 then orL l else x
theorem orL_drop {l : List Int} {k : Nat} (h : k < l.length) : orL (l.drop k) = if l.getD k 0 = 0 then orL (l.drop (k + 1)) else l.getD k 0 := by
  rw [List.drop_eq_getElem_cons h, orL, List.getD_eq_getElem?_getD, List.getElem?_eq_getElem h]
  rfl
def OrLAt (l : List Int) (w0 : World) (i : Value) (w : World) : Prop := ∃ k : Nat, k ≤ l.length ∧ i = .int .i64 (k : Int) ∧ orL l = orL (l.drop k) ∧ w0 = w
theorem orL_any (v : Value) (l : List Int) (w : World) (hr : Reads .i64 w v l) :
    Calls Tryd.prog 39 #[v] w fun e w' => e = .returned (.int .i64 (orL l)) ∧ w = w' := by
  have hlm : l.length ≤ 9223372036854775807 := by obtain ⟨_, _, _, _, e, _, h, _⟩ := hr; unfold maxLen at h; omega
  obtain ⟨a, c, rfl⟩ := reads_slice hr
  replace hr := hidden hr
  have hd := hidden (fun k => @orL_drop l k)
  go_enter Tryd.func39, Tryd.ntmps39
  go_wp2_with fail
  go_loopw [8] (fun i wr => OrLAt l w i wr) (fun i _ => l.length - (RowKit.intOf i).toNat)
  case atStart => exact ⟨0, Nat.zero_le _, rfl, rfl, rfl⟩
  case round =>
    obtain ⟨k, hk, rfl, ho, rfl⟩ := hrel
    by_cases hlt : k < l.length
    · obtain ⟨bl, o, rfl, c0⟩ := hr.out.cell k hlt
      have hn := hd.out k hlt
      generalize l.getD k 0 = x at *
      have hki : (k : Int) < (l.length : Int) := by omega
      by_cases hz : x = 0
      · subst hz
        rw [if_pos rfl] at hn
        rw [hn] at ho
        replace ho := hidden ho
        clear hn
        go_wp2
        go_roundw
        case rel => exact ⟨k + 1, hlt, by go_num, ho.out, rfl⟩
        case measure => simp [RowKit.intOf]; omega
      · have hne : (x != 0) = true := by simpa using hz
        rw [if_neg hz] at hn
        rw [hn] at ho
        replace ho := hidden ho
        clear hn hz
        go_wp2
        go_ret
        exact ⟨ret_int ho.out.symm, rfl⟩
    · obtain rfl : k = l.length := by omega
      rw [List.drop_length] at ho
      replace ho := hidden ho
      go_wp2
      go_ret
      exact ⟨ret_int ho.out.symm, rfl⟩
theorem less_sign (p a b q c d : Int) : decide (orL [sgv p q, sgv a c, sgv b d] < 0) = aheadB p a b q c d := by
  unfold aheadB sgv
  rw [Bool.eq_iff_iff, decide_eq_true_iff, decide_eq_true_iff]
  simp only [orL]
  repeat' split
  all_goals omega
theorem reads_three (w : World) (e : TypeId) (x y z : Int) : Reads .i64 (w.alloc (.cells #[.int .i64 x, .int .i64 y, .int .i64 z] e)).drew (.slice (some ⟨w.heap.size, 0, none⟩) 3 3) [x, y, z] :=
  (reads_new (k := .i64) (w := w) (e := e) #[.int .i64 x, .int .i64 y, .int .i64 z] [x, y, z] 3 rfl rfl (by decide)).same fun _ _ => rfl
abbrev SixIn (p a b q c d : Int) (g h : Nat) (W : World) : Prop :=
  W.cell? ⟨g, 0, none⟩ = some (.int .i64 p) ∧ W.cell? ⟨g, 1, none⟩ = some (.int .i64 a) ∧ W.cell? ⟨g, 2, none⟩ = some (.int .i64 b) ∧ W.cell? ⟨h, 0, none⟩ = some (.int .i64 q) ∧ W.cell? ⟨h, 1, none⟩ = some (.int .i64 c) ∧ W.cell? ⟨h, 2, none⟩ = some (.int .i64 d)
theorem SixIn.alloc {p a b q c d : Int} {g h : Nat} {W : World} (s : SixIn p a b q c d g h W) (o : Obj) : SixIn p a b q c d g h (W.alloc o) := by
  obtain ⟨h1, h2, h3, h4, h5, h6⟩ := s
  refine ⟨?_, ?_, ?_, ?_, ?_, ?_⟩ <;> (rw [World.cell?_alloc_lt _ _ _ (World.block_lt_of_cell? W _ (by assumption))]; assumption)
theorem sixIn_new (w : World) (p a b q c d : Int) : SixIn p a b q c d w.heap.size (w.heap.size + 1) ((w.alloc (plO p a b)).alloc (plO q c d)) := by
  have h1 := heap_alloc_new w (plO p a b)
  have h2 := heap_alloc_new (w.alloc (plO p a b)) (plO q c d)
  have h3 : ((w.alloc (plO p a b)).alloc (plO q c d)).heap[w.heap.size]? = some (plO p a b) := by rw [heap_alloc_old _ _ (by simp)]; exact h1
  have e : (w.alloc (plO p a b)).heap.size = w.heap.size + 1 := by simp
  rw [e] at h2
  refine ⟨?_, ?_, ?_, ?_, ?_, ?_⟩
  · rw [cell_of_row _ _ _ _ _ _ h3]; rfl
  · rw [cell_of_row _ _ _ _ _ _ h3]; rfl
  · rw [cell_of_row _ _ _ _ _ _ h3]; rfl
  · rw [cell_of_row _ _ _ _ _ _ h2]; rfl
  · rw [cell_of_row _ _ _ _ _ _ h2]; rfl
  · rw [cell_of_row _ _ _ _ _ _ h2]; rfl
set_option maxHeartbeats 1600000 in
theorem recLess_any (p a b q c d : Int) (w : World) : Calls Tryd.prog 23 #[plV p a b, plV q c d] w fun e w' => e = .returned (.bool (aheadB p a b q c d)) ∧ Below w.heap.size w w' := by
  have s0 := hidden (sixIn_new w p a b q c d)
  have hls := hidden (less_sign p a b q c d)
  have hOr := hidden (orL_any _ _ _ (reads_three ((w.alloc (plO p a b)).alloc (plO q c d)) 3 (sgv p q) (sgv a c) (sgv b d)))
  rw [show ((w.alloc (plO p a b)).alloc (plO q c d)).heap.size = w.heap.size + 1 + 1 by simp] at hOr
  have hlow := hidden (fun o => ((((Below.refl w.heap.size w).alloc (Nat.le_refl _) (plO p a b)).alloc (by simp) (plO q c d)).alloc (by simp; omega) o).drew)
  go_enter Tryd.func23, Tryd.ntmps23
  go_wp2_with fail
  go_region_held3 (fun W => W.cell? ⟨w.heap.size, 0, none⟩ = some (.int .i64 p) ∧ W.cell? ⟨w.heap.size, 1, none⟩ = some (.int .i64 a) ∧ W.cell? ⟨w.heap.size, 2, none⟩ = some (.int .i64 b) ∧ W.cell? ⟨w.heap.size + 1, 0, none⟩ = some (.int .i64 q) ∧ W.cell? ⟨w.heap.size + 1, 1, none⟩ = some (.int .i64 c) ∧ W.cell? ⟨w.heap.size + 1, 2, none⟩ = some (.int .i64 d))
    ((first | exact s0.out | exact s0.out.alloc _))
    (first
      | (go_at_call 40; refine (cmpInt_any _ _ _).mono ?_; rintro r w3 ⟨rfl, rfl⟩)
      | (go_at_call 39; with_reducible refine hOr.out.mono ?_; rintro r w3 ⟨rfl, rfl⟩))
  go_wp2
  go_ret
  exact ⟨ret_bool hls.out, hlow.out _⟩

/-! Ahead -/
theorem drew3 (w : World) (a b c : Nat) : ∃ m, ((w.drewN a).drewN b).drewN c = w.drewN m := ⟨a + b + c, by simp only [World.drewN, Nat.add_assoc]⟩
def AheadRel (xs ys : List Int) (w0 : World) (i : Value) (w : World) : Prop := ∃ k : Nat, k ≤ xs.length ∧ i = .int .i64 (k : Int) ∧ xs.take k = ys.take k ∧ ∃ m, w = w0.drewN m
set_option maxHeartbeats 1600000 in
/-- of two lists of one length. -/
theorem ahead_any (v u : Value) (xs ys : List Int) (w : World) (h1 : Reads .u8 w v xs) (h2 : Reads .u8 w u ys) (hx : ∀ z ∈ xs, 0 ≤ z ∧ z ≤ 255) (hy : ∀ z ∈ ys, 0 ≤ z ∧ z ≤ 255) (hl : xs.length = ys.length) :
    Calls Tryd.prog 24 #[v, u] w fun e w' => e = .returned (.bool (decide (unbe xs < unbe ys))) ∧ ∃ m, w' = w.drewN m := by
  have hlm : xs.length ≤ 9223372036854775807 := by obtain ⟨_, _, _, _, e, _, h, _⟩ := h1; unfold maxLen at h; omega
  obtain ⟨a, c, rfl⟩ := reads_slice h1
  obtain ⟨b, d, rfl⟩ := reads_slice h2
  rw [← hl] at h2 ⊢
  replace h1 := hidden h1
  replace h2 := hidden h2
  replace hl := hidden hl
  replace hx := hidden hx
  replace hy := hidden hy
  go_enter Tryd.func24, Tryd.ntmps24
  go_wp2_with fail
  go_loopw [6] (fun i wr => AheadRel xs ys w i wr) (fun i _ => xs.length - (RowKit.intOf i).toNat)
  case atStart => exact ⟨0, Nat.zero_le _, rfl, by simp, 0, rfl⟩
  case round =>
    obtain ⟨k, hk, rfl, ht, m, rfl⟩ := hrel
    replace ht := hidden ht
    by_cases hlt : k < xs.length
    · have hlt2 : k < ys.length := by have := hl.out; omega
      obtain ⟨bl, ol, rfl, hc⟩ := h1.out.cell k hlt
      obtain ⟨bl2, ol2, rfl, hc2⟩ := h2.out.cell k (by omega)
      have hlt3 : (k : Int) < (xs.length : Int) := by omega
      have ht1 := hidden (take_next xs k hlt)
      have ht2 := hidden (take_next ys k hlt2)
      have hf := hidden (unbe_first (k := k) hl.out hlt ht.out hx.out hy.out)
      generalize xs.getD k 0 = x at *
      generalize ys.getD k 0 = y at *
      by_cases hxy : x = y
      · subst hxy
        have hbb : (x != x) = false := by simp
        clear hf
        go_wp2_with fail
        go_quiet (fail)
        go_wp2
        go_roundw
        case rel => exact ⟨k + 1, hlt, by go_num, by rw [ht1.out, ht2.out, ht.out], _, rfl⟩
        case measure => simp [RowKit.intOf]; omega
      · have hbb : (x != y) = true := by simpa using hxy
        have hend := hidden (hf.out hxy)
        clear hf hxy
        go_wp2_with fail
        go_quiet (fail)
        go_wp2_with fail
        go_quiet (fail)
        go_wp2
        go_ret
        exact ⟨ret_bool hend.out.symm, drew3 _ _ _ _⟩
    · obtain rfl : k = xs.length := by omega
      have hd : decide (unbe xs < unbe ys) = false := by
        have e := ht.out
        rw [List.take_length, hl.out, List.take_length] at e
        rw [e]; simp
      replace hd := hidden hd
      go_wp2
      go_ret
      exact ⟨ret_bool hd.out.symm, m, rfl⟩
end Go.Proofs.YtjmpmlacaoelgaaDoor
