/-
  The document's own losses: Set, Get, Top, Two, Cover.
-/
import Derived.Test.YtlanggdmdpjfbaaDoorStressDo
import Derived.Test.YtlanggdmdpjfbaaDoorIn10
import Derived.Deep.WholeRow
namespace Go.Proofs.YtlanggdmdpjfbaaDoor
open Go.RowKit Go.Maps
set_option linter.unusedVariables false

def losC (T : LTab) : Array Value := ((List.range 561).map (fun i => Value.int .i64 (getL T (((i / 33 : Nat) : Int), ((i % 33 : Nat) : Int))))).toArray
theorem losC_at (T : LTab) (i : Nat) (h : i < 561) : (losC T)[i]? = some (.int .i64 (getL T (((i / 33 : Nat) : Int), ((i % 33 : Nat) : Int)))) := by simp [losC, h]
theorem losC_size (T : LTab) : (losC T).size = 561 := by simp [losC]
theorem losses_zero (w : World) : (zeroValue 31).run Tryd.prog w = .ok (.agg (losC noL)) w :=
  (zero_of_info (n := 561) (show (Tryd.prog.info? 31).map (fun i => (i.zero, i.size)) = some (some (.agg (losC noL)), 561) by kernel_rfl)).1 w
theorem losC_put {T : LTab} {s m : Nat} {x : Int} (hs : celOk ((s : Int), (m : Int))) (hx : amOk x) : (losC T).setIfInBounds (s * 33 + m) (.int .i64 x) = losC (setLT T ((s : Int), (m : Int)) x) := by
  have hs' := hs
  unfold celOk at hs'
  simp only at hs'
  apply Array.ext_getElem?
  intro j
  rw [Array.getElem?_setIfInBounds, losC_size]
  by_cases hj : j < 561
  · rw [losC_at _ j hj, losC_at _ j hj, getL_set]
    by_cases e : s * 33 + m = j
    · subst e
      rw [if_pos rfl, if_pos (by omega), if_pos ⟨hs, hx, by rw [show (s * 33 + m) / 33 = s by omega, show (s * 33 + m) % 33 = m by omega]⟩]
    · rw [if_neg e, if_neg (fun q => e (by have := q.2.2; simp only [Prod.mk.injEq] at this; omega))]
  · rw [if_neg (by omega)]
    rw [Array.getElem?_eq_none (by rw [losC_size]; omega), Array.getElem?_eq_none (by rw [losC_size]; omega)]
/-- block g is the document's losses. -/
structure RlAt (w : World) (g : Nat) (T : LTab) : Prop where
  row : w.heap[g]? = some (.cells (losC T) 31 (0, 0))
  lo : LoT T
theorem rlAt_new (w : World) : RlAt (w.alloc (.cells (losC noL) 31)) w.heap.size noL := ⟨heap_alloc_new w _, noL_lo⟩
section
variable {w w' : World} {g : Nat} {T : LTab}
theorem RlAt.lt (h : RlAt w g T) : g < w.heap.size := (Array.getElem?_eq_some_iff.1 h.row).1
theorem RlAt.block (h : RlAt w g T) (hb : w'.heap[g]? = w.heap[g]?) : RlAt w' g T := ⟨hb.trans h.row, h.lo⟩
theorem RlAt.below (h : RlAt w g T) (hb : Below w.heap.size w w') : RlAt w' g T := h.block (hb.block _ h.lt)
theorem RlAt.trd {S : Nat → Prop} (h : RlAt w g T) (ht : Trd S w w') (hg : ¬ S g) : RlAt w' g T := h.block (ht.block _ h.lt hg)
theorem RlAt.cell (h : RlAt w g T) (s m : Nat) (hs : s < 17) (hm : m < 33) : w.cell? ⟨g, s * 33 + m, none⟩ = some (.int .i64 (getL T ((s : Int), (m : Int)))) := by
  rw [cell_of_row _ _ _ _ _ _ h.row, losC_at T _ (by omega), show (s * 33 + m) / 33 = s by omega, show (s * 33 + m) % 33 = m by omega]
theorem RlAt.frozen (h : RlAt w g T) (j : Nat) : w.frozen? ⟨g, j, none⟩ = false := by simp [World.frozen?, h.row]
theorem RlAt.put (h : RlAt w g T) {s m : Nat} {x : Int} (hs : celOk ((s : Int), (m : Int))) (hx : amOk x) : RlAt (w.setCell ⟨g, s * 33 + m, none⟩ (.int .i64 x)) g (setLT T ((s : Int), (m : Int)) x) := by
  have hs' := hs
  unfold celOk at hs'
  simp only at hs'
  refine ⟨?_, h.lo.set _ _⟩
  have hE : (losC T).setIfInBounds (s * 33 + m) (.int .i64 x) = losC (setLT T ((s : Int), (m : Int)) x) := losC_put hs hx
  rw [heap_setCell_row h.row, hE]
end
theorem amt22_any (n : Int) (w : World) : Calls Tryd.prog 24 #[.int .i64 n] w fun e w' => e = .returned (.bool (decide (amOk n))) ∧ w = w' := by
  rcases amOk_ways n with ⟨t1, q⟩ | ⟨t1, t2, q⟩ | ⟨t1, t2, q⟩
  all_goals
    replace q := hidden q
    go_enter Tryd.func24, Tryd.ntmps24
    go_wp2
    go_ret
    exact ⟨ret_bool q.out.symm, rfl⟩
theorem ref22_ways (c d x : Int) : (inB c 1 16 = false ∧ ¬ (celOk (c, d) ∧ amOk x)) ∨ (inB c 1 16 = true ∧ inB d 1 32 = false ∧ ¬ (celOk (c, d) ∧ amOk x)) ∨ (inB c 1 16 = true ∧ inB d 1 32 = true ∧ decide (amOk x) = false ∧ ¬ (celOk (c, d) ∧ amOk x)) ∨
    (inB c 1 16 = true ∧ inB d 1 32 = true ∧ decide (amOk x) = true ∧ celOk (c, d) ∧ amOk x) := by
  unfold inB
  simp only [decide_eq_true_iff, decide_eq_false_iff_not]
  unfold celOk amOk
  simp only
  omega
def RefLoSetAt (g : Nat) (T : LTab) (c d x : Int) (w : World) (e : Ending) (w' : World) : Prop :=
  e = .returned (.int .i64 (setLC (c, d) x)) ∧ RlAt w' g (setLT T (c, d) x) ∧ Trd (· = g) w w'
set_option maxHeartbeats 1600000 in
theorem refLoSet_any (w : World) (g : Nat) (T : LTab) (c d x : Int) (h : RlAt w g T) :
    Calls Tryd.prog 9 #[.pointer (some ⟨g, 0, none⟩), .int .i64 c, .int .i64 d, .int .i64 x] w (RefLoSetAt g T c d x w) := by
  unfold RefLoSetAt
  rcases ref22_ways c d x with ⟨t1, q⟩ | ⟨t1, t2, q⟩ | ⟨t1, t2, t3, q⟩ | ⟨t1, t2, t3, q1, q2⟩
  iterate 3
    · rw [show setLC (c, d) x = 103 from if_neg q, show setLT T (c, d) x = T from if_neg q]
      replace h := hidden h
      clear q
      go_enter Tryd.func9, Tryd.ntmps9
      go_wp2_with (first
        | (go_at_call 23; (with_reducible refine (in_any _ _ _ _).mono ?_); rintro e w' ⟨rfl, rfl⟩)
        | (go_at_call 24; (with_reducible refine (amt22_any _ _).mono ?_); rintro e w' ⟨rfl, rfl⟩))
      go_ret
      exact ⟨rfl, h.out, Trd.refl _ _⟩
  · rw [show setLC (c, d) x = 0 from if_pos ⟨q1, q2⟩]
    obtain ⟨k, rfl⟩ : ∃ k : Nat, c = (k : Int) := ⟨c.toNat, by unfold celOk at q1; omega⟩
    obtain ⟨j, rfl⟩ : ∃ j : Nat, d = (j : Int) := ⟨d.toNat, by unfold celOk at q1; omega⟩
    have hq := q1
    unfold celOk at hq
    simp only at hq
    have hk : k < 17 := by omega
    have hj : j < 33 := by omega
    have c1 := h.cell k j hk hj
    have f1 := h.frozen (k * 33 + j)
    have hp := hidden (h.put q1 q2)
    have hkI : (k : Int) < 17 := by omega
    have hjI : (j : Int) < 33 := by omega
    have ht := hidden (Trd.setCell (S := (· = g)) w ⟨g, k * 33 + j, none⟩ (.int .i64 x) rfl)
    clear h q1 q2 hq
    go_enter Tryd.func9, Tryd.ntmps9
    go_wp2_with (first
      | (go_at_call 23; (with_reducible refine (in_any _ _ _ _).mono ?_); rintro e w' ⟨rfl, rfl⟩)
      | (go_at_call 24; (with_reducible refine (amt22_any _ _).mono ?_); rintro e w' ⟨rfl, rfl⟩))
    go_ret
    exact ⟨rfl, hp.out, ht.out⟩
def RefTopRel (l : List Int) (w0 : World) (a b i : Value) (w : World) : Prop :=
  ∃ k : Nat, k ≤ l.length ∧ i = .int .i64 (k : Int) ∧ a = .int .i64 (topA (l.take k)).1 ∧ b = .int .i64 (topA (l.take k)).2 ∧ (∀ j, j < k → amOk (l.getD j 0)) ∧ w0 = w
set_option maxRecDepth 100000 in
set_option maxHeartbeats 3200000 in
theorem refTop_any (w : World) (v : Value) (l : List Int) (hr : Reads .i64 w v l) :
    Calls Tryd.prog 48 #[v] w fun e w' => e = .returned (.tuple #[.int .i64 (topV l), .int .i64 (topC l)]) ∧ w = w' := by
  obtain ⟨a1, c1, rfl⟩ := reads_slice hr
  have hx1 := hidden (fun i hi => hr.cell i hi)
  have hQ := hidden (fun x => amt22_any x w)
  have hml : (l.length : Int) ≤ 9223372036854775807 := by
    have := reads_cap hr
    unfold maxLen at this
    omega
  clear hr
  go_enter Tryd.func48, Tryd.ntmps48
  go_wp2_with fail
  go_loopw [4, 5, 6] (fun a b i wr => RefTopRel l w a b i wr) (fun _ _ i _ => l.length - (RowKit.intOf i).toNat)
  case atStart => exact ⟨0, Nat.zero_le _, rfl, rfl, rfl, (fun j hj => by omega), rfl⟩
  case round =>
    obtain ⟨k, hk, rfl, rfl, rfl, hok, rfl⟩ := hrel
    have hbd := topA_bd (take_all22 k hok hk)
    by_cases hlt : k < l.length
    · obtain ⟨b, o, rfl, q0⟩ := hx1.out k hlt
      have hlI : (k : Int) < (l.length : Int) := by omega
      have htk := hidden (topA_take l k hlt)
      have hQ1 := hidden (hQ.out (l.getD k 0))
      by_cases hx : amOk (l.getD k 0)
      · rw [decide_eq_true hx] at hQ1
        have hok2 := hidden (show ∀ j, j < k + 1 → amOk (l.getD j 0) from fun j hj => by
          by_cases e : j = k
          · subst e; exact hx
          · exact hok j (by omega))
        generalize l.getD k 0 = x at *
        generalize topA (l.take k) = p at *
        obtain ⟨a, b2⟩ := p
        simp only at hbd
        clear hok hx1 hQ hx
        by_cases h1 : a < x
        · rw [topS_new h1 hbd.2.1] at htk
          have m1 : min a x = a := by omega
          have m2 : max b2 a = a := by omega
          have m3 : max a x = x := by omega
          have m4 : (if b2 < a then a else b2) = a := by split <;> omega
          go_wp2_with fail
          refine hQ1.out.mono ?_
          rintro e w' ⟨rfl, rfl⟩
          clear hQ1
          go_wp2
          all_goals
            go_roundw
            case rel => exact ⟨k + 1, hlt, by go_num, by rw [htk.out], by rw [htk.out], hok2.out, rfl⟩
            case measure => simp [RowKit.intOf]; omega
        · by_cases h2 : b2 < x
          · rw [topS_second h1 h2] at htk
            have m1 : min a x = x := by omega
            have m2 : max b2 x = x := by omega
            have m3 : max a x = a := by omega
            have m4 : (if x < a then x else a) = x := by split <;> omega
            go_wp2_with fail
            refine hQ1.out.mono ?_
            rintro e w' ⟨rfl, rfl⟩
            clear hQ1
            go_wp2
            all_goals
              go_roundw
              case rel => exact ⟨k + 1, hlt, by go_num, by rw [htk.out], by rw [htk.out], hok2.out, rfl⟩
              case measure => simp [RowKit.intOf]; omega
          · rw [topS_none h1 h2] at htk
            have m1 : min a x = x := by omega
            have m2 : max b2 x = b2 := by omega
            have m3 : max a x = a := by omega
            have m4 : (if x < a then x else a) = x := by split <;> omega
            go_wp2_with fail
            refine hQ1.out.mono ?_
            rintro e w' ⟨rfl, rfl⟩
            clear hQ1
            go_wp2
            all_goals
              go_roundw
              case rel => exact ⟨k + 1, hlt, by go_num, by rw [htk.out], by rw [htk.out], hok2.out, rfl⟩
              case measure => simp [RowKit.intOf]; omega
      · rw [decide_eq_false hx] at hQ1
        have hbad := topC_bad (l := l) fun h => hx (h _ (getI22_mem hlt))
        have hr1 := hidden (show 0 = topV l from hbad.2.symm)
        have hr2 := hidden (show 103 = topC l from hbad.1.symm)
        generalize l.getD k 0 = x at *
        generalize topA (l.take k) = p at *
        clear hok hx1 hQ hx hbad htk hbd
        go_wp2_with fail
        refine hQ1.out.mono ?_
        rintro e w' ⟨rfl, rfl⟩
        clear hQ1
        go_wp2
        go_ret2
        exact ⟨ret_ii hr1.out hr2.out, rfl⟩
    · obtain rfl : k = l.length := by omega
      have hall := take_all22 _ hok hk
      rw [List.take_length] at hall hbd
      rw [List.take_length]
      have hT := hidden (And.intro (@topC_over l hall) (@topC_fine l hall))
      generalize hp : topA l = p at *
      obtain ⟨a, b⟩ := p
      simp only at hbd hT
      clear hok hx1 hQ hall hp
      by_cases h1 : 1000000000000000 < a + b
      · obtain ⟨e1, e2⟩ := hT.out.1 h1
        have hr1 := hidden (show 0 = topV l from e2.symm)
        have hr2 := hidden (show 104 = topC l from e1.symm)
        clear hT e1 e2
        go_wp2
        go_ret2
        exact ⟨ret_ii hr1.out hr2.out, rfl⟩
      · obtain ⟨e1, e2⟩ := hT.out.2 h1
        have hr1 := hidden (show a + b = topV l from e2.symm)
        have hr2 := hidden (show 0 = topC l from e1.symm)
        clear hT e1 e2
        go_wp2
        go_ret2
        exact ⟨ret_ii hr1.out hr2.out, rfl⟩
abbrev RtS22 (w0 : World) (g o b p : Nat) (y n : Int) (W : World) : Prop := (W.cell? ⟨g, o, none⟩ = some (.int .i64 y) ∧ W.cell? ⟨b, p, none⟩ = some (.int .i64 n)) ∧ Below w0.heap.size w0 W
def RefTwoRel (T : LTab) (s : Int) (l : List Int) (w0 : World) (v i : Value) (w : World) : Prop :=
  ∃ k : Nat, k ≤ l.length ∧ i = .int .i64 (k : Int) ∧ (∀ j, j < k → amOk (l.getD j 0)) ∧ w.ownsRow w0.heap.size 2 1 v k ((abvK T s l k).map (Value.int .i64)) ∧ Below w0.heap.size w0 w
set_option maxRecDepth 100000 in
set_option maxHeartbeats 3200000 in
theorem refTwo_any (w : World) (g : Nat) (T : LTab) (h : RlAt w g T) (s : Int) (v : Value) (l : List Int) (hr : Reads .i64 w v l) :
    Calls Tryd.prog 37 #[.pointer (some ⟨g, 0, none⟩), .int .i64 s, v] w fun e w' => e = .returned (.tuple #[.int .i64 (twoV T s l), .int .i64 (twoC T s l)]) ∧ Below w.heap.size w w' := by
  obtain ⟨a1, c1, rfl⟩ := reads_slice hr
  have hx1 := hidden (fun i hi W (hb : Below w.heap.size w W) => (hr.below hb (Nat.le_refl _)).cell i hi)
  have hI := hidden (in_any s 1 16 w)
  have hQ := hidden (fun x W => amt22_any x W)
  have hR := hidden (fun W (hb : Below w.heap.size w W) => h.below hb)
  have hP := hidden (fun W v l hr => refTop_any W v l hr)
  have hlo := hidden h.lo
  clear hr h
  by_cases hM : 32 < l.length
  · obtain ⟨e1, e2⟩ := two_many (T := T) (s := s) hM
    have hr1 := hidden (show 0 = twoV T s l from e2.symm)
    have hr2 := hidden (show 105 = twoC T s l from e1.symm)
    have hMI : (32 : Int) < (l.length : Int) := by omega
    clear e1 e2 hM hI hQ hR hP hx1 hlo
    go_enter Tryd.func37, Tryd.ntmps37
    go_wp2
    go_ret2
    exact ⟨ret_ii hr1.out hr2.out, Below.refl _ _⟩
  · have hMI : (l.length : Int) ≤ 32 := by omega
    by_cases hs : scOk s
    · rw [show inB s 1 16 = true from decide_eq_true hs] at hI
      have hsI := hs
      unfold scOk at hsI
      obtain ⟨s', rfl⟩ : ∃ s' : Nat, s = (s' : Int) := ⟨s.toNat, by omega⟩
      have hs17 : s' < 17 := by omega
      replace hs := hidden hs
      go_enter Tryd.func37, Tryd.ntmps37
      go_wp2_with fail
      refine hI.out.mono ?_
      rintro e w' ⟨rfl, rfl⟩
      clear hI
      go_wp2_with fail
      go_loopw [8, 9] (fun v i wr => RefTwoRel T (s' : Int) l w v i wr) (fun _ i _ => l.length - (RowKit.intOf i).toNat)
      case atStart => exact ⟨0, Nat.zero_le _, rfl, (fun j hj => by omega), World.ownsRow_nil _ _ _ _, Below.refl _ _⟩
      case round =>
        obtain ⟨k, hk, rfl, hok, hown, hb⟩ := hrel
        by_cases hlt : k < l.length
        · obtain ⟨b, o, rfl, q0⟩ := hx1.out k hlt _ hb
          have hq := hidden (fun W (h2 : Below w.heap.size w W) => show W.cell? ⟨b, o + k, none⟩ = some (.int .i64 (l.getD k 0)) by
            obtain ⟨b', o', e, q⟩ := hx1.out k hlt _ h2
            simp only [Option.some.injEq, Addr.mk.injEq, and_true] at e
            obtain ⟨rfl, rfl⟩ := e
            exact q)
          have hlI : (k : Int) < (l.length : Int) := by omega
          have hQ1 := hidden (hQ.out (l.getD k 0) wr)
          by_cases hx : amOk (l.getD k 0)
          · rw [decide_eq_true hx] at hQ1
            have hok2 := hidden (show ∀ j, j < k + 1 → amOk (l.getD j 0) from fun j hj => by
              by_cases e : j = k
              · subst e; exact hx
              · exact hok j (by omega))
            have hnx := hidden (show (abvK T (s' : Int) l (k + 1)).map (Value.int .i64) = (abvK T (s' : Int) l k).map (Value.int .i64) ++ [.int .i64 (abvAt T (s' : Int) l k)] by rw [abvK_next, map_snoc22])
            have hways := abv_ways T (s' : Int) l k
            have hgb := hlo.out.get ((s' : Int), (k : Int) + 1)
            have hcell := hidden (fun W (hb : Below w.heap.size w W) => show W.cell? ⟨g, s' * 33 + (k + 1), none⟩ = some (.int .i64 (getL T ((s' : Int), (k : Int) + 1))) from (hR.out W hb).cell s' (k + 1) hs17 (by omega))
            have hxI := hx
            unfold amOk at hxI
            generalize getL T ((s' : Int), (k : Int) + 1) = y at *
            generalize abvAt T (s' : Int) l k = z at *
            generalize l.getD k 0 = x at *
            have hwy : IntKind.i64.wrap (y - x) = y - x := by rw [IntKind.wrap_i64]; omega
            have hwk : IntKind.i64.wrap ((k : Int) + 1) = (k : Int) + 1 := by rw [IntKind.wrap_i64]; omega
            have hkI : (k : Int) + 1 < 33 := by omega
            have hk0 : (0 : Int) ≤ (k : Int) + 1 := by omega
            have hsI17 : (s' : Int) < 17 := by omega
            have hs0 := hidden (show RtS22 w g (s' * 33 + (k + 1)) b (o + k) y x wr.drew from ⟨⟨hcell.out _ hb.drew, hq.out _ hb.drew⟩, hb.drew⟩)
            have hnS := hidden (fun W (h : Below w.heap.size w W) => show RtS22 w g (s' * 33 + (k + 1)) b (o + k) y x W from ⟨⟨hcell.out _ h, hq.out _ h⟩, h⟩)
            generalize hL1 : (abvK T (s' : Int) l k).map (Value.int .i64) = L1 at *
            replace hL1 := hidden hL1
            have hbs := hidden hb.drew.size
            have hbd := hidden hb.drew
            replace hown := hidden hown
            replace hb := hidden hb
            clear hok hx1 hQ hx hP hlo hs hR hq hcell
            rcases hways with ⟨h0, rfl⟩ | ⟨h0, rfl⟩
            · have hif : (if x < y then y - x else 0) = 0 := by split <;> omega
              go_wp2_with fail
              refine hQ1.out.mono ?_
              rintro e w' ⟨rfl, rfl⟩
              clear hQ1
              go_wp2_with fail
              first | (go_region_held3 (fun W => (W.cell? ⟨g, s' * 33 + (k + 1), none⟩ = some (.int .i64 y) ∧ W.cell? ⟨b, o + k, none⟩ = some (.int .i64 x)) ∧ Below w.heap.size w W)
                ((first | exact hs0.out | assumption | exact hnS.out _ ((hbd.out.alloc hbs.out _).trans hb4) | exact hnS.out _ (hbd.out.alloc hbs.out _)))
                ((first
                  | (refine step_app (by rfl) _ _ _ (by rfl) 2 Tryd.underlying23 infoI22 (by rfl) (by decide) w.heap.size _ k L1 (by rfl) (World.ownsRow.alloc (own_below hown.out (Below.refl wr.heap.size wr).drew (Nat.le_refl _)) _) (k := .i64) (ys := [0]) (by rfl) (reads_new (w := wr.drew) _ [0] 1 rfl rfl (by decide)) (by omega) (by simp) ((hbd.out.alloc hbs.out _).size) ?_; intro v4 w4 hown4 hb4)))) | fail
              rename_i hh
              have hlow := hidden hh.2
              replace hown4 := hidden hown4
              clear hh hs0 hb4 hnS
              go_wp2
              go_roundw
              case rel => exact ⟨k + 1, hlt, by go_num, hok2.out, by rw [hnx.out]; exact hown4.out, hlow.out⟩
              case measure => simp [RowKit.intOf]; omega
            · have hif : (if x < y then y - x else 0) = y - x := by split <;> omega
              go_wp2_with fail
              refine hQ1.out.mono ?_
              rintro e w' ⟨rfl, rfl⟩
              clear hQ1
              go_wp2_with fail
              first | (go_region_held3 (fun W => (W.cell? ⟨g, s' * 33 + (k + 1), none⟩ = some (.int .i64 y) ∧ W.cell? ⟨b, o + k, none⟩ = some (.int .i64 x)) ∧ Below w.heap.size w W)
                ((first | exact hs0.out | assumption | exact hnS.out _ ((hbd.out.alloc hbs.out _).trans hb4) | exact hnS.out _ (hbd.out.alloc hbs.out _)))
                ((first
                  | (refine step_app (by rfl) _ _ _ (by rfl) 2 Tryd.underlying23 infoI22 (by rfl) (by decide) w.heap.size _ k L1 (by rfl) (World.ownsRow.alloc (own_below hown.out (Below.refl wr.heap.size wr).drew (Nat.le_refl _)) _) (k := .i64) (ys := [y - x]) (by rfl) (reads_new (w := wr.drew) _ [y - x] 1 rfl rfl (by decide)) (by omega) (by simp) ((hbd.out.alloc hbs.out _).size) ?_; intro v4 w4 hown4 hb4)))) | fail
              rename_i hh
              have hlow := hidden hh.2
              replace hown4 := hidden hown4
              clear hh hs0 hb4 hnS
              go_wp2
              go_roundw
              case rel => exact ⟨k + 1, hlt, by go_num, hok2.out, by rw [hnx.out]; exact hown4.out, hlow.out⟩
              case measure => simp [RowKit.intOf]; omega
          · rw [decide_eq_false hx] at hQ1
            have hbad := two_bad (T := T) hM hs.out (l := l) fun h => hx (h _ (getI22_mem hlt))
            have hr1 := hidden (show 0 = twoV T (s' : Int) l from hbad.2.symm)
            have hr2 := hidden (show 103 = twoC T (s' : Int) l from hbad.1.symm)
            generalize l.getD k 0 = x at *
            replace hb := hidden hb
            clear hok hx1 hQ hx hbad hP hlo hs hR hown hq
            go_wp2_with fail
            refine hQ1.out.mono ?_
            rintro e w' ⟨rfl, rfl⟩
            clear hQ1
            go_wp2
            go_ret2
            exact ⟨ret_ii hr1.out hr2.out, hb.out⟩
        · obtain rfl : k = l.length := by omega
          have hall := allAm_of hok
          have hrd := reads_of_own (k := .i64) (xs := abvL T (s' : Int) l) (n := l.length) hown
          have hP1 := hidden (hP.out wr _ _ hrd)
          obtain ⟨va, vc, rfl⟩ := reads_slice hrd
          obtain ⟨e1, e2⟩ := two_top (T := T) hM hs.out hall
          rw [← e1, ← e2] at hP1
          replace hb := hidden hb
          clear hok hx1 hQ hP hlo hs hR hall e1 e2 hown hrd
          generalize hr1 : twoV T (s' : Int) l = rv at *
          generalize hr2 : twoC T (s' : Int) l = re at *
          replace hr1 := hidden hr1
          replace hr2 := hidden hr2
          go_wp2_with fail
          refine hP1.out.mono ?_
          rintro e w' ⟨rfl, rfl⟩
          clear hP1
          go_wp2
          go_ret2
          exact ⟨ret_ii hr1.out.symm hr2.out.symm, hb.out⟩
    · rw [show inB s 1 16 = false from decide_eq_false hs] at hI
      obtain ⟨e1, e2⟩ := two_scene (T := T) hM hs
      have hr1 := hidden (show 0 = twoV T s l from e2.symm)
      have hr2 := hidden (show 103 = twoC T s l from e1.symm)
      clear e1 e2 hM hQ hP hx1 hlo hs hR
      go_enter Tryd.func37, Tryd.ntmps37
      go_wp2_with fail
      refine hI.out.mono ?_
      rintro e w' ⟨rfl, rfl⟩
      clear hI
      go_wp2
      go_ret2
      exact ⟨ret_ii hr1.out hr2.out, Below.refl _ _⟩
theorem ret_iii {k j m : IntKind} {a b c d e f : Int} (h : a = b) (h2 : c = d) (h3 : e = f) : Ending.returned (.tuple #[.int k a, .int j c, .int m e]) = .returned (.tuple #[.int k b, .int j d, .int m f]) := by rw [h, h2, h3]
set_option maxRecDepth 100000 in
set_option maxHeartbeats 3200000 in
theorem refCover_any (w : World) (g : Nat) (T : LTab) (h : RlAt w g T) (v : Value) (l : List Int) (hr : Reads .i64 w v l) :
    Calls Tryd.prog 26 #[.pointer (some ⟨g, 0, none⟩), v] w fun e w' => e = .returned (.tuple #[.int .i64 (covR T l).v, .int .i64 (covR T l).s, .int .i64 (covR T l).c]) ∧ Below w.heap.size w w' := by
  have hT := hidden (fun W (hb : Below w.heap.size w W) s => refTwo_any W g T (h.below hb) s v l (hr.below hb (Nat.le_refl _)))
  clear hr h
  go_enter Tryd.func26, Tryd.ntmps26
  go_wp2_with fail
  go_loopw [7, 8, 9] (fun m s i wr => CovRel T l w m s i wr) (fun _ _ i _ => 17 - (RowKit.intOf i).toNat)
  case atStart => exact ⟨0, by omega, rfl, rfl, rfl, rfl, Below.refl _ _⟩
  case round =>
    obtain ⟨k, hk, rfl, rfl, rfl, hc, hb⟩ := hrel
    by_cases hlt : k < 16
    · have hkI : (k : Int) + 1 ≤ 16 := by omega
      have hT1 := hidden (hT.out wr hb ((k : Int) + 1))
      have hbad := hidden (fun h2 => covS_bad (T := T) (l := l) hlt hc h2)
      have hnew := hidden (fun h2 h3 => covS_new (T := T) (l := l) (k := k) hc h2 h3)
      have hold := hidden (fun h2 h3 => covS_old (T := T) (l := l) (k := k) hc h2 h3)
      have hcc := hidden hc
      generalize hP : covS T l k = P at *
      obtain ⟨pc, pv, ps⟩ := P
      simp only at hc hcc hnew hold
      subst hc
      replace hP := hidden hP
      generalize twoC T ((k : Int) + 1) l = c at *
      generalize twoV T ((k : Int) + 1) l = y at *
      replace hb := hidden hb
      clear hT
      by_cases h0 : c = 0
      · subst h0
        by_cases h1 : pv < y
        · have hn := hidden (hnew.out rfl h1)
          clear hnew hold hbad
          go_wp2_with fail
          refine hT1.out.mono ?_
          rintro e w' ⟨rfl, hb2⟩
          have hb3 := hidden (hb.out.trans (hb2.mono hb.out.size))
          clear hb2 hT1
          go_wp2
          go_roundw
          case rel => exact ⟨k + 1, by omega, by go_num, by rw [hn.out], by rw [hn.out], by rw [hn.out], hb3.out⟩
          case measure => simp [RowKit.intOf]; omega
        · have hn := hidden (hold.out rfl h1)
          clear hnew hold hbad
          go_wp2_with fail
          refine hT1.out.mono ?_
          rintro e w' ⟨rfl, hb2⟩
          have hb3 := hidden (hb.out.trans (hb2.mono hb.out.size))
          clear hb2 hT1
          go_wp2
          go_roundw
          case rel => exact ⟨k + 1, by omega, by go_num, by rw [hn.out], by rw [hn.out], by rw [hn.out], hb3.out⟩
          case measure => simp [RowKit.intOf]; omega
      · have hn := hbad.out h0
        have hr1 := hidden (show 0 = (covR T l).v by rw [hn])
        have hr2 := hidden (show 0 = (covR T l).s by rw [hn])
        have hr3 := hidden (show c = (covR T l).c by rw [hn])
        have hcB : (c != 0) = true := by simpa using h0
        clear hnew hold hbad hn h0
        go_wp2_with fail
        refine hT1.out.mono ?_
        rintro e w' ⟨rfl, hb2⟩
        have hb3 := hidden (hb.out.trans (hb2.mono hb.out.size))
        clear hb2 hT1
        go_wp2
        go_ret3
        exact ⟨ret_iii hr1.out hr2.out hr3.out, hb3.out⟩
    · obtain rfl : k = 16 := by omega
      have hr3 := hidden (show 0 = (covR T l).c from Eq.symm hc)
      replace hb := hidden hb
      rw [show covS T l 16 = covR T l from rfl]
      clear hT hc
      generalize hr1 : (covR T l).v = rv at *
      generalize hr2 : (covR T l).s = rs at *
      replace hr1 := hidden hr1
      replace hr2 := hidden hr2
      go_wp2
      go_ret3
      exact ⟨ret_iii hr1.out.symm hr2.out.symm hr3.out, hb.out⟩
end Go.Proofs.YtlanggdmdpjfbaaDoor
