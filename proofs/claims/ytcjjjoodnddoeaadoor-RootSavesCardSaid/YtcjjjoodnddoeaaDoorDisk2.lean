/-
  disk.reached, pledgelaw5.whole, disk.New.
-/
import Derived.Test.YtcjjjoodnddoeaaDoorDisk1
import Derived.OwnWalk
namespace Go.Proofs.YtcjjjoodnddoeaaDoor
open Go.RowKit Go.Maps
set_option linter.unusedVariables false

theorem rch0 {p : Int} (h : p % 3 = 0) : (rch p : Int) = 0 := by simp [rch, h]
theorem rch1 {p : Int} (h : p % 3 = 1) : (rch p : Int) = 128 := by simp [rch, h]
theorem rch2 {p : Int} (h0 : p % 3 ≠ 0) (h1 : p % 3 ≠ 1) : (rch p : Int) = (p / 3) % 129 := by
  simp only [rch, h0, h1, if_false]; omega
theorem reached_any (p : Int) (w : World) (h1 : -9223372036854775808 ≤ p) (h2 : p ≤ 9223372036854775807) :
    Calls Tryd.prog 34 #[.int .i64 p] w fun e w' => e = .returned (.int .i64 (rch p)) ∧ ∃ k, w' = w.drewN k := by
  have hr0 := hidden (@rch0 p)
  have hr1 := hidden (@rch1 p)
  have hr2 := hidden (@rch2 p)
  have d1 := hidden (divide_any p 3 w h1 h2 (by decide) (by decide))
  have h3 : -9223372036854775808 ≤ p / 3 ∧ p / 3 ≤ 9223372036854775807 := by omega
  have d2 := hidden (fun w => divide_any (p / 3) 129 w h3.1 h3.2 (by decide) (by decide))
  have h4 : 0 ≤ p % 3 ∧ p % 3 < 3 := by omega
  clear h1 h2 h3
  generalize p / 3 = q at *
  generalize p % 3 = r at *
  by_cases e0 : r = 0
  · subst e0
    go_enter Tryd.func34, Tryd.ntmps34
    go_wp2_with (go_at_call 43; refine d1.out.mono ?_; rintro e w' ⟨rfl, k, rfl⟩)
    go_ret
    exact ⟨ret_int (hr0.out (by trivial)).symm, _, rfl⟩
  · by_cases e1 : r = 1
    · subst e1
      go_enter Tryd.func34, Tryd.ntmps34
      go_wp2_with (go_at_call 43; refine d1.out.mono ?_; rintro e w' ⟨rfl, k, rfl⟩)
      go_ret
      exact ⟨ret_int (hr1.out (by trivial)).symm, _, rfl⟩
    · have hr := hidden (hr2.out e0 e1)
      go_enter Tryd.func34, Tryd.ntmps34
      go_wp2_with (first
        | (go_at_call 43; with_reducible refine d1.out.mono ?_; rintro e w' ⟨rfl, k, rfl⟩)
        | (go_at_call 43; with_reducible refine (d2.out _).mono ?_; rintro e w' ⟨rfl, k2, rfl⟩))
      go_ret
      exact ⟨ret_int hr.out.symm, _, rfl⟩

/-! whole -/
def wholeC (b : Int) (k : Nat) : List Int := List.replicate k b ++ List.replicate (128 - k) 0
theorem wholeC_zero (b : Int) : wholeC b 0 = List.replicate 128 0 := rfl
theorem wholeC_end (b : Int) : wholeC b 128 = List.replicate 128 b := by simp [wholeC]
theorem wholeC_step (b : Int) (k : Nat) (hk : k < 128) : (((wholeC b k).map (Value.int .u8)).toArray).setIfInBounds k (.int .u8 b) = ((wholeC b (k + 1)).map (Value.int .u8)).toArray := by
  obtain ⟨j, hj⟩ : ∃ j, 128 - k = j + 1 := ⟨127 - k, by omega⟩
  simp only [wholeC, List.setIfInBounds_toArray]
  congr 1
  rw [hj, show 128 - (k + 1) = j by omega, List.replicate_succ, List.replicate_succ' (n := k)]
  simp
theorem wholeC_at (b : Int) (k : Nat) (hk : k < 128) : (((wholeC b k).map (Value.int .u8)).toArray)[k]? = some (.int .u8 0) := by
  obtain ⟨j, hj⟩ : ∃ j, 128 - k = j + 1 := ⟨127 - k, by omega⟩
  rw [List.getElem?_toArray, wholeC, List.map_append, List.getElem?_append_right (by simp), hj, List.replicate_succ]
  simp
def AtWhole (b : Int) (g : Nat) (w0 : World) (i : Value) (w : World) : Prop := ∃ k : Nat, k ≤ 128 ∧ i = .int .i64 (k : Int) ∧ Below w0.heap.size w0 w ∧ w.heap[g]? = some (.cells ((wholeC b k).map (Value.int .u8)).toArray 5 (0, 0))
theorem reads_block {k : IntKind} {w : World} {g : Nat} {xs : List Int} {e : TypeId} {n : Nat} (h : w.heap[g]? = some (.cells (xs.map (Value.int k)).toArray e (0, 0))) (hn : xs.length = n) (hm : n ≤ 1000000) : Reads k w (.slice (some ⟨g, 0, none⟩) n n) xs := by
  refine ⟨_, n, n, rfl, hn, Nat.le_refl _, by unfold maxLen; omega, (fun h => by cases h), fun ad had i hi => ?_⟩
  obtain rfl := Option.some.inj had
  refine ⟨rfl, ?_⟩
  simp only [Nat.zero_add]
  rw [cell_of_row _ _ _ _ _ _ h, List.getElem?_toArray, List.getElem?_map, List.getD_eq_getElem?_getD, List.getElem?_eq_getElem (by omega)]
  rfl
theorem whole_start {w w1 : World} {n : Nat} (hg : w.grownBy w1 none) (ho : w1.ownsRow w.heap.size 5 1 (.slice (some ⟨w.heap.size, 0, none⟩) n n) n (madeCells #[.int .u8 0] n).toList) :
    w1.heap[w.heap.size]? = some (.cells ((List.replicate n (0 : Int)).map (Value.int .u8)).toArray 5 (0, 0)) ∧ Below w.heap.size w w1 := by
  refine ⟨?_, (Below.refl _ w).grown hg (Nat.le_refl _) (fun k hk => by cases hk)⟩
  obtain ⟨h1, h2⟩ := ho
  rcases h2 with ⟨h2, _⟩ | ⟨g, cap, cur, hv, hb, hh, hn, hc, hs, ht⟩
  · cases h2
  · simp only [Value.slice.injEq, Option.some.injEq, Addr.mk.injEq, and_true, true_and] at hv
    obtain ⟨rfl, rfl⟩ := hv
    rw [hh]
    congr 2
    apply Array.ext'
    rw [List.take_of_length_le (by simp; omega), toList_madeCells_one] at ht
    rw [ht]
    simp
theorem sec_info : (Tryd.prog.info? 73).map (fun i => (i.zero, i.size, i.bytes)) = some (some (aggV (List.replicate 128 0)), 128, 128) := by kernel_rfl
theorem sec_size : (Tryd.prog.info? 73).map (·.size) = some 128 := by kernel_rfl
theorem sec_key : Keyed Tryd.prog 3 := int_keyed Tryd.underlying3
theorem made_rep (z : Value) (m N : Nat) (hm : 0 < m) : (madeCells (List.replicate m z).toArray N).toList = List.replicate N z := by
  unfold madeCells
  apply List.ext_getElem?
  intro j
  by_cases hj : j < N
  · have : j % m < m := Nat.mod_lt _ hm
    simp [hj, this]
  · simp [hj]
theorem secV_rep (m : Nat) : secV (List.replicate m 0) = List.replicate m (.int .u8 0) := by simp [secV]
theorem made_sec (n i : Nat) (hi : i < n) : ((madeCells (secV (List.replicate 128 0)).toArray (n * 128)).toList.drop (i * 128)).take 128 = secV (List.replicate 128 0) := by
  rw [secV_rep, made_rep _ _ _ (by omega), List.drop_replicate, List.take_replicate]
  congr 1
  omega
/-- sectors that a call has made. -/
theorem rows_own {w : World} {base n : Nat} {v : Value} {xs : List Value} {e : TypeId} (h : w.ownsRow base e 128 v n xs) (fl : Nat → List Int) (hl : ∀ i, i < n → (fl i).length = 128) (hx : ∀ i, i < n → (xs.drop (i * 128)).take 128 = secV (fl i)) (h0 : 1 ≤ n) : ∃ g cap, v = .slice (some ⟨g, 0, none⟩) n cap ∧ base ≤ g ∧ g < w.heap.size ∧ RowsAt w g n fl := by
  obtain ⟨h1, h2⟩ := h
  rcases h2 with ⟨_, h2⟩ | ⟨g, cap, cur, rfl, hb, hh, hn, hc, hs, ht⟩
  · omega
  · refine ⟨g, cap, rfl, hb, (Array.getElem?_eq_some_iff.1 hh).1, fun i hi => ⟨fun j v hv => ?_, fun j hj => ?_⟩⟩
    · have hj : j < 128 := by
        have := (List.getElem?_eq_some_iff.1 hv).1
        rw [secV_len, hl i hi] at this; exact this
      rw [← hx i hi, List.getElem?_take, if_pos hj, List.getElem?_drop, ← ht, List.getElem?_take, if_pos (by omega)] at hv
      rw [cell_of_row _ _ _ _ _ _ hh]
      simpa using hv
    · refine ⟨?_, by simp [World.frozen?, hh]⟩
      rw [cell_of_row _ _ _ _ _ _ hh, Array.getElem?_eq_getElem (by rw [hs]; have : n * 128 ≤ cap * 128 := Nat.mul_le_mul_right _ hn; omega)]
      rfl
theorem new_disk {w w1 : World} {n : Nat} (h0 : 1 ≤ n) (h1 : n ≤ 8192) (hg : w.grownBy w1 none) (ho : w1.ownsRow w.heap.size 73 128 (.slice (some ⟨w.heap.size, 0, none⟩) n n) n (madeCells (secV (List.replicate 128 0)).toArray (n * 128)).toList) :
    DiskAt ((w1.alloc (.map #[] 0)).alloc (.cells (dskC w.heap.size n n w1.heap.size 0 0 false) 67)) (w1.heap.size + 1) w.heap.size w1.heap.size (newDk n) ∧ Below w.heap.size w ((w1.alloc (.map #[] 0)).alloc (.cells (dskC w.heap.size n n w1.heap.size 0 0 false) 67)) ∧ w.heap.size < w1.heap.size := by
  obtain ⟨g, cap, hv, hb, hlt, hr⟩ := rows_own ho (fun _ => List.replicate 128 0) (by simp) (fun i hi => made_sec n i hi) h0
  simp only [Value.slice.injEq, Option.some.injEq, Addr.mk.injEq, and_true, true_and] at hv
  obtain ⟨rfl, rfl⟩ := hv
  have hr' : RowsAt ((w1.alloc (.map #[] 0)).alloc (.cells (dskC w.heap.size n n w1.heap.size 0 0 false) 67)) w.heap.size n (fun _ => List.replicate 128 0) :=
    hr.block (by rw [Below.heap_alloc _ _ _ (by simp; omega), Below.heap_alloc _ _ _ hlt])
  refine ⟨⟨newDk_ok h0 h1, by omega, ⟨n, ?_⟩, hr', ?_⟩, ?_, hlt⟩
  · rw [show w1.heap.size + 1 = (w1.alloc (.map #[] 0)).heap.size by simp]
    exact heap_alloc_new _ _
  · exact (World.ownsMap_made w1 Tryd.prog 3 secR).alloc _
  · exact (((Below.refl _ w).grown hg (Nat.le_refl _) (fun k hk => by cases hk)).alloc (Nat.le_of_lt hlt) _).alloc (by simp; omega) _
def NewAt (n : Nat) (w : World) (e : Ending) (w' : World) : Prop := ∃ d g m, e = .returned (.tuple #[.pointer (some ⟨d, 0, none⟩), .nilIface]) ∧ w.heap.size ≤ d ∧ w.heap.size ≤ g ∧ w.heap.size ≤ m ∧ DiskAt w' d g m (newDk n) ∧ Below w.heap.size w w'
theorem new_any (n : Nat) (h0 : 1 ≤ n) (h1 : n ≤ 8192) (w : World) :
    Calls Tryd.prog 15 #[.int .i64 n] w (NewAt n w) := by
  obtain ⟨i0, hi, hz0, hz1, hz2⟩ := info_parts sec_info
  have hmm := @run_makeMap Tryd.prog
  have hn0 : ¬ (n : Int) < 1 := by omega
  have hn1 : ¬ (8192 : Int) < n := by omega
  have hby := hidden (show i0.bytes * n ≤ 281474976710656 by rw [hz2]; omega)
  have hml := hidden (show n ≤ maxLen by unfold maxLen; omega)
  have hnd := hidden (fun w1 => @new_disk w w1 n h0 h1)
  clear h0 h1
  go_enter Tryd.func15, Tryd.ntmps15
  go_wp2_with (first | (at_make; refine wpList_make_full _ rfl _ _ 64 rfl w.heap.size 73 i0 (aggV (List.replicate 128 0)) 128 Tryd.underlying64 hi hz0 hz1 .i64 .i64 n n n rfl rfl rfl rfl hby.out hml.out (Nat.le_refl _) ?_; intro w1 hown hgrow; have hst := hidden (hnd.out w1 hgrow hown); clear hgrow hown) | go_in)
  go_ret2
  obtain ⟨hd, hb, hlt⟩ := hst.out
  exact ⟨_, _, _, rfl, by omega, Nat.le_refl _, by omega, hd, hb⟩
end Go.Proofs.YtcjjjoodnddoeaaDoor
