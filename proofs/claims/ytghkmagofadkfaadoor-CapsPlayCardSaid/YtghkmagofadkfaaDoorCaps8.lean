/-
  All.
-/
import Derived.Test.YtghkmagofadkfaaDoorCaps3
import Derived.Test.YtghkmagofadkfaaDoorRow
namespace Go.Proofs.YtghkmagofadkfaaDoor
open Go.RowKit Go.Maps
set_option linter.unusedVariables false

/-- the limits that there are, by what they are of, then by number. -/
def idsC (T : CTab) (c : Int) : Nat → List LimT
  | 0 => []
  | n + 1 => idsC T c n ++ (if getC T (c, (n : Int) + 1) = 0 then [] else [(c, (n : Int) + 1)])
def topN (k : Nat) : Nat := if k = 0 then 6 else if k = 1 then 6 else 32
def whC (T : CTab) : Nat → List LimT
  | 0 => []
  | k + 1 => whC T k ++ idsC T ((k : Int) + 1) (topN k)
def allC (T : CTab) : List LimT := whC T 3
theorem idsC_le (T : CTab) (c : Int) (n : Nat) : (idsC T c n).length ≤ n := by
  induction n with
  | zero => exact Nat.le_refl _
  | succ n ih =>
    unfold idsC
    rw [List.length_append]
    split
    · simp only [List.length_nil]; omega
    · simp only [List.length_cons, List.length_nil]; omega
theorem topN_le (k : Nat) : topN k ≤ 32 := by
  unfold topN
  split
  · omega
  · split <;> omega
theorem whC_le (T : CTab) (k : Nat) : (whC T k).length ≤ 32 * k := by
  induction k with
  | zero => exact Nat.le_refl _
  | succ k ih =>
    unfold whC
    rw [List.length_append]
    have := idsC_le T ((k : Int) + 1) (topN k)
    have := topN_le k
    omega
theorem lmTop_nat {k : Nat} (h : k < 3) : lmTop ((k : Int) + 1) = (topN k : Int) := by
  match k, h with
  | 0, _ => rfl
  | 1, _ => rfl
  | 2, _ => rfl
def limV (x : LimT) : List Value := [.int .i64 x.1, .int .i64 x.2]
theorem limV_len (x : LimT) : (limV x).length = 2 := rfl
theorem limV_one (x : LimT) : ∀ u ∈ limV x, u.oneCell' = true := fun u hu => by
  simp only [limV, List.mem_cons, List.not_mem_nil, or_false] at hu
  rcases hu with rfl | rfl <;> rfl
theorem infoLm : (Tryd.prog.info? 25).map (fun i => (i.zero, i.size, i.bytes)) = some (some (.agg #[.int .i64 0, .int .i64 0]), 2, 16) := by kernel_rfl
abbrev OwnLm (B : Nat) (w : World) (v : Value) (l : List LimT) : Prop := OwnR limV 2 25 B w v l
def AllLmRel (T : CTab) (w0 : World) (v i : Value) (w : World) : Prop := ∃ k : Nat, k ≤ 3 ∧ i = .int .i64 ((k : Int) + 1) ∧ OwnLm w0.heap.size w v (whC T k) ∧ Below w0.heap.size w0 w
def AllLmIn (T : CTab) (k : Nat) (w0 : World) (v i : Value) (w : World) : Prop := ∃ j : Nat, j ≤ topN k ∧ i = .int .i64 ((j : Int) + 1) ∧ OwnLm w0.heap.size w v (whC T k ++ idsC T ((k : Int) + 1) j) ∧ Below w0.heap.size w0 w
def AllLmAt (l : List LimT) (w : World) (e : Ending) (w' : World) : Prop := ∃ v, e = .returned v ∧ OwnLm w.heap.size w' v l ∧ Below w.heap.size w w'
set_option maxRecDepth 100000 in
set_option maxHeartbeats 6400000 in
theorem cpAll_any (w : World) (B g n : Nat) (T : CTab) (h : CpAt w B g n T) : Calls Tryd.prog 13 #[.pointer (some ⟨g, 0, none⟩)] w (AllLmAt (allC T) w) := by
  have hG := hidden (fun W (hb : Below w.heap.size w W) s hs => cpGet_any W B g n T (h.below hb (Nat.le_refl _)) s hs)
  have hp := hidden (fun s => (h.ho.get s).1)
  clear h
  go_enter Tryd.func13, Tryd.ntmps13
  go_wp2_with fail
  go_loopw [3, 4] (fun v i wr => AllLmRel T w v i wr) (fun _ i _ => 4 - (RowKit.intOf i).toNat)
  case atStart => exact ⟨0, by omega, rfl, OwnR.nil _ _ _, Below.refl _ _⟩
  case round =>
    obtain ⟨k, hk, rfl, hown, hb⟩ := hrel
    by_cases hlt : k < 3
    · have hkI : (k : Int) + 1 ≤ 3 := by omega
      have hT := hidden (fun w => top_any ((k : Int) + 1) w)
      rw [lmTop_nat hlt] at hT
      have htn := topN_le k
      replace hown := hidden hown
      replace hb := hidden hb
      go_wp2_with fail
      go_loopw [3, 5] (fun v i wr => AllLmIn T k w v i wr) (fun _ i _ => topN k + 1 - (RowKit.intOf i).toNat)
      case atStart => exact ⟨0, by omega, rfl, by simpa [idsC] using hown.out, hb.out⟩
      case round =>
        clear hown hb
        obtain ⟨j, hj, rfl, hown, hb⟩ := hrel
        have hwk := whC_le T k
        have hij := idsC_le T ((k : Int) + 1) j
        have hlk := hidden (show (whC T k ++ idsC T ((k : Int) + 1) j).length ≤ 1000000 by rw [List.length_append]; omega)
        have hn := hidden (show whC T k ++ idsC T ((k : Int) + 1) (j + 1) = whC T k ++ idsC T ((k : Int) + 1) j ++ (if getC T ((k : Int) + 1, (j : Int) + 1) = 0 then [] else [((k : Int) + 1, (j : Int) + 1)]) from by rw [idsC, List.append_assoc])
        clear hwk hij
        by_cases hj6 : j < topN k
        · have hjI : (j : Int) + 1 ≤ (topN k : Int) := by omega
          have hb1 := hb.alloc hb.size (lmO ((k : Int) + 1, (j : Int) + 1))
          have hG1 := hidden (hG.out _ hb1 ((k : Int) + 1, (j : Int) + 1) (by unfold lmIn; simp only; omega))
          have hpp := hp.out ((k : Int) + 1, (j : Int) + 1)
          replace hown := hidden (hown.alloc (lmO ((k : Int) + 1, (j : Int) + 1)))
          have hc := hidden (heap_alloc_new wr (lmO ((k : Int) + 1, (j : Int) + 1)))
          replace hb := hidden hb1
          clear hG hb1 hp
          generalize getC T ((k : Int) + 1, (j : Int) + 1) = x at *
          generalize hLd : whC T k ++ idsC T ((k : Int) + 1) j = Ld at *
          replace hLd := hidden hLd
          by_cases hx : x = 0
          · subst hx
            go_wp2_with (go_at_call 24; (with_reducible refine (hT.out _).mono ?_); rintro e w' ⟨rfl, rfl⟩)
            (with_reducible refine hG1.out.mono ?_)
            rintro e w' ⟨rfl, hb2⟩
            replace hown := hidden (hown.out.below hb2 (Nat.le_refl _))
            replace hb := hidden (hb.out.trans (hb2.mono hb.out.size))
            clear hG1 hb2 hc hpp hT
            go_wp2
            go_roundw
            case rel => exact ⟨j + 1, by omega, by go_num, by rw [hn.out]; simpa using hown.out, hb.out⟩
            case measure => simp [RowKit.intOf]; omega
          · rw [if_neg hx] at hn
            have hxb : decide (0 < x) = true := decide_eq_true (by omega)
            replace hx := hidden hx
            clear hpp
            go_wp2_with (go_at_call 24; (with_reducible refine (hT.out _).mono ?_); rintro e w' ⟨rfl, rfl⟩)
            (with_reducible refine hG1.out.mono ?_)
            rintro e w' ⟨rfl, hb2⟩
            replace hown := hidden (hown.out.below hb2 (Nat.le_refl _))
            replace hb := hidden (hb.out.trans (hb2.mono hb.out.size))
            have hc2 := (hb2.block _ (by simp)).trans hc.out
            have k0 : w'.cell? ⟨wr.heap.size, 0, none⟩ = some (.int .i64 ((k : Int) + 1)) := by rw [cell_of_row _ _ _ _ _ _ hc2]; rfl
            have k1 : w'.cell? ⟨wr.heap.size, 1, none⟩ = some (.int .i64 ((j : Int) + 1)) := by rw [cell_of_row _ _ _ _ _ _ hc2]; rfl
            have hBr := hidden hb.out.size
            clear hG1 hb2 hc hc2 hT
            go_wp2_with (at_builtin; refine wpList_appR1 rfl _ _ 41 rfl limV_len limV_one (by decide) 25 Tryd.underlying41 infoLm rfl (by decide) w.heap.size _ Ld rfl hown.out ((k : Int) + 1, (j : Int) + 1) _ rfl _ rfl (by simp) hlk.out hBr.out ?_)
            intro v2 w2 hown2 hb2
            replace hown2 := hidden hown2
            replace hb2 := hidden (hb.out.trans hb2)
            go_wp2
            go_roundw
            case rel => exact ⟨j + 1, by omega, by go_num, by rw [hn.out]; exact hown2.out, hb2.out⟩
            case measure => simp [RowKit.intOf]; omega
        · obtain rfl : j = topN k := by omega
          replace hown := hidden (show OwnLm _ _ _ (whC T (k + 1)) from hown)
          replace hb := hidden hb
          go_wp2_with (go_at_call 24; (with_reducible refine (hT.out _).mono ?_); rintro e w' ⟨rfl, rfl⟩)
          go_roundw
          case rel => exact ⟨k + 1, by omega, by go_num, hown.out, hb.out⟩
          case measure => simp [RowKit.intOf]; omega
    · obtain rfl : k = 3 := by omega
      replace hown := hidden hown
      replace hb := hidden hb
      go_wp2
      go_ret
      exact ⟨_, rfl, hown.out, hb.out⟩
end Go.Proofs.YtghkmagofadkfaaDoor
