/-
  The document's own AddAsset.
-/
import Derived.Test.YtbjiiddlpfjipaaDoorAsset4
namespace Go.Proofs.YtbjiiddlpfjipaaDoor
open Go.RowKit
set_option linter.unusedVariables false

def RefAddAt (v : Value) (t : List As) (a : As) (w : World) (e : Ending) (w' : World) : Prop := ∃ v', e = .returned (.tuple #[v', .int .i64 (addC t a)]) ∧ Row asV 5 w' v' (allA (nextT t a)) ∧ (v' = v ∨ ∀ b, v'.ownBlock = some b → w.heap.size ≤ b) ∧ Below w.heap.size w w'
def AddRel (l : List As) (d : Int) (w0 : World) (i : Value) (w : World) : Prop := ∃ k : Nat, k ≤ l.length ∧ i = .int .i64 (k : Int) ∧ (∀ j, j < k → (l.getD j asZ).i < d) ∧ ∃ m, w = w0.drewN m
abbrev AsIn5 (w0 : World) (g : Nat) (a : As) (W : World) : Prop := (W.cell? ⟨g, 0, none⟩ = some (.int .i64 a.i) ∧ W.cell? ⟨g, 1, none⟩ = some (.int .i64 a.s) ∧ W.cell? ⟨g, 2, none⟩ = some (.int .i64 a.c) ∧ W.cell? ⟨g, 3, none⟩ = some (.int .i64 a.m) ∧ W.cell? ⟨g, 4, none⟩ = some (.int .i64 a.e)) ∧ Below w0.heap.size w0 W
theorem asIn5_next {w0 W W' : World} {g : Nat} {a : As} (h : AsIn5 w0 g a W) (hb : Below W.heap.size W W') : AsIn5 w0 g a W' := by
  obtain ⟨⟨h1, h2, h3, h4, h5⟩, h6⟩ := h
  refine ⟨?_, h6.trans (hb.mono h6.size)⟩
  refine ⟨?_, ?_, ?_, ?_, ?_⟩ <;> (rw [World.cell?_of_block (w := W) (hb.block _ (World.block_lt_of_cell? W _ (by assumption)))]; assumption)
theorem asIn5_drew {w0 W : World} {g : Nat} {a : As} (h : AsIn5 w0 g a W) : AsIn5 w0 g a W.drew := ⟨h.1, h.2.drew⟩
theorem asIn5_base {w0 W W' : World} {B : Nat} {a : As} (h : AsIn5 w0 w0.heap.size a W) (hB : w0.heap.size < B) (hb : Below B W W') : AsIn5 w0 w0.heap.size a W' := by
  obtain ⟨⟨h1, h2, h3, h4, h5⟩, h6⟩ := h
  refine ⟨?_, h6.trans (hb.mono (Nat.le_of_lt hB))⟩
  refine ⟨?_, ?_, ?_, ?_, ?_⟩ <;> (rw [World.cell?_of_block (w := W) (hb.block _ hB)]; assumption)
theorem row_drew {w : World} {v : Value} {l : List As} (h : Row asV 5 w v l) : Row asV 5 w.drew v l := h.same asV_len (fun _ _ => rfl)
theorem size_next {w w' : World} {B : Nat} {o : Obj} (h : Below B w w') : w.heap.size ≤ (w'.alloc o).heap.size := by have := h.size; simp only [World.size_alloc]; omega
theorem asIn5_low {w0 W : World} {g : Nat} {a : As} (h : AsIn5 w0 g a W) : Below w0.heap.size w0 W := h.2
set_option maxHeartbeats 3200000 in
theorem refAddAs_any (v : Value) (t : List As) (a : As) (w : World) (hT : Tab t) (hr : Row asV 5 w v (allA t)) :
    Calls Tryd.prog 8 #[v, asA a] w (RefAddAt v t a w) := by
  obtain ⟨v1, v2, rfl⟩ := row_slice hr
  have hV := hidden (refValid_any a (w.alloc (asO a)))
  have hn := hidden (asAt_new w a)
  have hlow := hidden (below_as w a)
  have h32 := allA_32 hT
  replace hr := hidden (fun W (h : Below w.heap.size w W) => hr.below asV_len h (Nat.le_refl _))
  by_cases ho : AsOk a
  · obtain ⟨hi1, hi2⟩ := ho.1.1
    rw [show vC a = 0 from if_pos ho] at hV
    go_enter Tryd.func8, Tryd.ntmps8
    go_wp2_with fail
    refine hV.out.mono ?_
    rintro r w1 ⟨rfl, hb⟩
    replace hlow := hidden (hlow.out.trans (hb.mono hlow.out.size))
    replace hn := hidden (hn.out.below hb)
    clear hb hV
    obtain ⟨c0, c1, c2, c3, c4⟩ := hn.out.cells
    go_wp2_with fail
    refine (find_any10 _ _ _ _ (hr.out _ hlow.out)).mono ?_
    rintro r w2 ⟨z, rfl, hf, rfl⟩
    rcases hT.found hf with ⟨rfl, hno⟩ | ⟨k, rfl, _, _, _, hth, _⟩
    · have hnot : ¬ there t a.i := fun h => hno ⟨hi1, hi2, h⟩
      obtain ⟨q1, _, q3, _⟩ := addC_new ho hnot
      have hfin := hidden (show ∀ v' w', Row asV 5 w' v' (allA (putA t a)) → (∀ b, v'.ownBlock = some b → w.heap.size ≤ b) → Below w.heap.size w w' → RefAddAt (.slice v1 (allA t).length v2) t a w (.returned (.tuple #[v', .int .i64 0])) w' from fun v' w' h1 h3 h2 => ⟨v', by rw [q1], by rw [q3]; exact h1, .inr h3, h2⟩)
      have hins := hidden (fun k (hk : k ≤ (allA t).length) h1 h2 => hT.insert (k := k) ⟨hi1, hi2⟩ hnot hk h1 h2)
      clear q1 q3 hf hno hnot hT ho
      generalize allA (putA t a) = res at *
      generalize allA t = l at *
      go_wp2_with fail
      go_loopw [7] (fun i wr => AddRel l a.i w1 i wr) (fun i _ => l.length - (RowKit.intOf i).toNat)
      case atStart => exact ⟨0, Nat.zero_le _, rfl, fun j h => absurd h (Nat.not_lt_zero _), 0, rfl⟩
      case round =>
        obtain ⟨k, hk, rfl, hles, m, rfl⟩ := hrel
        by_cases hgo : k < l.length ∧ (l.getD k asZ).i < a.i
        · obtain ⟨hlt, hx⟩ := hgo
          obtain ⟨b, o, rfl, d0, d1, d2, d3, d4⟩ := rowA_at (hr.out _ hlow.out) k hlt
          have hnext := hidden (show ∀ j, j < k + 1 → (l.getD j asZ).i < a.i from fun j hj => by
            rcases Nat.lt_succ_iff_lt_or_eq.1 hj with q | rfl
            · exact hles j q
            · exact hx)
          clear d1 d2 d3 d4 hles
          generalize l.getD k asZ = x at *
          go_wp2_with fail
          go_quiet (fail)
          go_wp2
          go_roundw
          case rel => exact ⟨k + 1, hlt, by go_num, hnext.out, _, rfl⟩
          case measure => simp [RowKit.intOf]; omega
        · have hres := hidden (show l.take k ++ a :: l.drop k = res by rw [← hins.out k hk hles (fun h1 => Int.not_lt.1 fun h2 => hgo ⟨h1, h2⟩)]; simp)
          have hbm := hidden (below_drewN (m := m) hlow.out)
          have ht : k = l.length ∨ (k < l.length ∧ decide ((l.getD k asZ).i < a.i) = false) := by
            by_cases h : k < l.length
            · exact .inr ⟨h, decide_eq_false fun h2 => hgo ⟨h, h2⟩⟩
            · exact .inl (by omega)
          clear hgo hles
          obtain ⟨_, hc1, hm1, hnone⟩ := row_cap (hr.out _ hlow.out)
          have hkc : (k : Int) ≤ (v2 : Int) := by omega
          have hkl0 : (k : Int) ≤ (l.length : Int) := by omega
          have hAs := hidden (fun W (h : Below w.heap.size w W) => assets_any (.slice v1 k v2) (l.take k) W (row_take asV_len (hr.out W h) hk) (by simp; omega))
          have hlk := hidden (show (l.take k).length ≤ 1000000 by simp; omega)
          by_cases hlt : k < l.length
          · have hx : decide ((l.getD k asZ).i < a.i) = false := by
              rcases ht with q | ⟨_, q⟩
              · omega
              · exact q
            have hck : ¬ v2 = k := by omega
            have hsum := hidden (show k + (l.length - k) = l.length by omega)
            have hsum2 := hidden (show l.length - k ≤ v2 - k by omega)
            have hsum3 := hidden (Nat.sub_le v2 k)
            have hlI : (k : Int) < (l.length : Int) := by omega
            obtain ⟨b, o, rfl, d0, d1, d2, d3, d4⟩ := rowA_at (hr.out _ hlow.out) k hlt
            clear d1 d2 d3 d4 ht
            generalize (l.getD k asZ) = x at *
            go_wp2_with fail
            go_quiet (fail)
            go_wp2_with fail
            have hb2 := hidden (below_drewN (m := nq) hbm.out)
            have hS0 := hidden (show AsIn5 w w.heap.size a ((w1.drewN m).drewN nq) from ⟨hn.out.cells, hb2.out⟩)
            have hBs := hidden (show w.heap.size + 1 ≤ ((w1.drewN m).drewN nq).heap.size from (Array.getElem?_eq_some_iff.1 hn.out.row).1)
            clear hn hbm c0 c1 c2 c3 c4
            generalize (w1.drewN m).drewN nq = wq at *
            clear hlow
            first | (go_region_held3 (fun W => (W.cell? ⟨w.heap.size, 0, none⟩ = some (.int .i64 a.i) ∧ W.cell? ⟨w.heap.size, 1, none⟩ = some (.int .i64 a.s) ∧ W.cell? ⟨w.heap.size, 2, none⟩ = some (.int .i64 a.c) ∧ W.cell? ⟨w.heap.size, 3, none⟩ = some (.int .i64 a.m) ∧ W.cell? ⟨w.heap.size, 4, none⟩ = some (.int .i64 a.e)) ∧ Below w.heap.size w W)
              ((first | exact asIn5_drew hS0.out | assumption | exact asIn5_next (by assumption) (by assumption) | exact asIn5_next (by assumption) (below_as _ a) | exact asIn5_drew (asIn5_next hS0.out (below_as _ a)) | exact asIn5_base (by assumption) (Nat.lt_succ_self _) hb4))
              ((first
                | (go_at_call 24; (with_reducible refine (hAs.out _ (asIn5_low (by assumption))).mono ?_); rintro r w3 ⟨v3, rfl, hown3, hb3⟩)
                | (refine step_appR (by rfl) _ _ _ (by rfl) asV_len asV_one (by decide) 25 Tryd.underlying22 infoAs (by rfl) (by decide) (w.heap.size + 1) v3 _ (by rfl) ((hown3.from (show w.heap.size + 1 ≤ wq.drew.heap.size from hBs.out)).alloc _) (ys := [a]) (by rfl) (row_new asV_len _ [a] 1 rfl rfl (by decide)) hlk.out (by simp) (Nat.le_trans (show w.heap.size + 1 ≤ wq.drew.heap.size from hBs.out) (size_next hb3)) ?_; intro v4 w4 hown4 hb4)
                | (refine step_appR (by rfl) _ _ _ (by rfl) asV_len asV_one (by decide) 25 Tryd.underlying22 infoAs (by rfl) (by decide) (w.heap.size + 1) v3 _ (by rfl) (hown3.from (Nat.le_trans hBs.out (below_as wq a).size)) (ys := [a]) (by rfl) (Row.below asV_len (w := (wq.alloc (asO a)).drew) (row_drew (row_new (w := wq) asV_len _ [a] 1 rfl rfl (by decide))) hb3 (Nat.le_refl _)) hlk.out (by simp) (Nat.le_trans hBs.out (Nat.le_trans (below_as wq a).size hb3.size)) ?_; intro v4 w4 hown4 hb4)))) | fail
            all_goals
              rename_i hh
              have hend := hidden (asIn5_low hh)
              have hr4 := hidden (hr.out _ hend.out)
              replace hown4 := hidden (hown4.from (Nat.le_succ _))
              have hB4 := hidden hend.out.size
              clear hh hb4 hb3 hown3 hS0 hb2 hBs hAs hr
              go_wp2_with (at_builtin; refine wpList_appR rfl _ _ 22 rfl asV_len asV_one (by decide) 25 Tryd.underlying22 infoAs rfl (by decide) w.heap.size _ (l.take k ++ [a]) rfl hown4.out (ys := l.drop k) rfl (row_drop (m := l.length - k) (c' := v2 - k) asV_len hr4.out hsum.out hsum2.out hsum3.out) (by simp; omega) (by simp; omega) hB4.out ?_)
              intro v5 w5 hown5 hb5
              have hr5 := hidden (hown5.row asV_len)
              have hf5 := hidden (fun b hb => (World.ownsRow.lt hown5 b hb).1)
              replace hb5 := hidden (hend.out.trans hb5)
              rw [hres.out] at hr5
              clear hown5
              go_wp2
              go_ret2
              exact hfin.out _ _ hr5.out hf5.out hb5.out
          · have hkI : decide ((k : Int) < (l.length : Int)) = false := decide_eq_false (by omega)
            have hkN : decide (k < l.length) = false := decide_eq_false (by omega)
            clear ht
            by_cases hck : v2 = k
            · have hz2 := hidden (show v2 - k = 0 by omega)
              have hck' := hidden hck
              rw [hck] at hAs
              go_wp2_with fail
              go_quiet (fail)
              go_wp2_with fail
              have hb2 := hidden (below_drewN (m := nq) hbm.out)
              have hS0 := hidden (show AsIn5 w w.heap.size a ((w1.drewN m).drewN nq) from ⟨hn.out.cells, hb2.out⟩)
              have hBs := hidden (show w.heap.size + 1 ≤ ((w1.drewN m).drewN nq).heap.size from (Array.getElem?_eq_some_iff.1 hn.out.row).1)
              clear hn hbm c0 c1 c2 c3 c4
              generalize (w1.drewN m).drewN nq = wq at *
              clear hlow
              first | (go_region_held3 (fun W => (W.cell? ⟨w.heap.size, 0, none⟩ = some (.int .i64 a.i) ∧ W.cell? ⟨w.heap.size, 1, none⟩ = some (.int .i64 a.s) ∧ W.cell? ⟨w.heap.size, 2, none⟩ = some (.int .i64 a.c) ∧ W.cell? ⟨w.heap.size, 3, none⟩ = some (.int .i64 a.m) ∧ W.cell? ⟨w.heap.size, 4, none⟩ = some (.int .i64 a.e)) ∧ Below w.heap.size w W)
                ((first | exact asIn5_drew hS0.out | assumption | exact asIn5_next (by assumption) (by assumption) | exact asIn5_next (by assumption) (below_as _ a) | exact asIn5_drew (asIn5_next hS0.out (below_as _ a)) | exact asIn5_base (by assumption) (Nat.lt_succ_self _) hb4))
                ((first
                  | (go_at_call 24; (with_reducible refine (hAs.out _ (asIn5_low (by assumption))).mono ?_); rintro r w3 ⟨v3, rfl, hown3, hb3⟩)
                  | (refine step_appR (by rfl) _ _ _ (by rfl) asV_len asV_one (by decide) 25 Tryd.underlying22 infoAs (by rfl) (by decide) (w.heap.size + 1) v3 _ (by rfl) ((hown3.from (show w.heap.size + 1 ≤ wq.drew.heap.size from hBs.out)).alloc _) (ys := [a]) (by rfl) (row_new asV_len _ [a] 1 rfl rfl (by decide)) hlk.out (by simp) (Nat.le_trans (show w.heap.size + 1 ≤ wq.drew.heap.size from hBs.out) (size_next hb3)) ?_; intro v4 w4 hown4 hb4)
                  | (refine step_appR (by rfl) _ _ _ (by rfl) asV_len asV_one (by decide) 25 Tryd.underlying22 infoAs (by rfl) (by decide) (w.heap.size + 1) v3 _ (by rfl) (hown3.from (Nat.le_trans hBs.out (below_as wq a).size)) (ys := [a]) (by rfl) (Row.below asV_len (w := (wq.alloc (asO a)).drew) (row_drew (row_new (w := wq) asV_len _ [a] 1 rfl rfl (by decide))) hb3 (Nat.le_refl _)) hlk.out (by simp) (Nat.le_trans hBs.out (Nat.le_trans (below_as wq a).size hb3.size)) ?_; intro v4 w4 hown4 hb4)))) | fail
              all_goals
                rename_i hh
                have hend := hidden (asIn5_low hh)
                have hr4 := hidden (hr.out _ hend.out)
                replace hown4 := hidden (hown4.from (Nat.le_succ _))
                have hB4 := hidden hend.out.size
                clear hh hb4 hb3 hown3 hS0 hb2 hBs hAs hr
                go_wp2_with (at_builtin; refine wpList_appR rfl _ _ 22 rfl asV_len asV_one (by decide) 25 Tryd.underlying22 infoAs rfl (by decide) w.heap.size _ (l.take k ++ [a]) rfl hown4.out (ys := l.drop k) rfl (by have h := (row_from asV_len hr4.out hk).1 hck'.out; rw [hz2.out] at h; exact h) (by simp; omega) (by simp; omega) hB4.out ?_)
                intro v5 w5 hown5 hb5
                have hr5 := hidden (hown5.row asV_len)
                have hf5 := hidden (fun b hb => (World.ownsRow.lt hown5 b hb).1)
                replace hb5 := hidden (hend.out.trans hb5)
                rw [hres.out] at hr5
                clear hown5
                go_wp2
                go_ret2
                exact hfin.out _ _ hr5.out hf5.out hb5.out
            · obtain ⟨ad, rfl⟩ : ∃ ad, v1 = some ad := by
                cases v1 with
                | none => have := (hnone rfl).2; omega
                | some ad => exact ⟨ad, rfl⟩
              go_wp2_with fail
              go_quiet (fail)
              go_wp2_with fail
              have hb2 := hidden (below_drewN (m := nq) hbm.out)
              have hS0 := hidden (show AsIn5 w w.heap.size a ((w1.drewN m).drewN nq) from ⟨hn.out.cells, hb2.out⟩)
              have hBs := hidden (show w.heap.size + 1 ≤ ((w1.drewN m).drewN nq).heap.size from (Array.getElem?_eq_some_iff.1 hn.out.row).1)
              clear hn hbm c0 c1 c2 c3 c4
              generalize (w1.drewN m).drewN nq = wq at *
              clear hlow
              first | (go_region_held3 (fun W => (W.cell? ⟨w.heap.size, 0, none⟩ = some (.int .i64 a.i) ∧ W.cell? ⟨w.heap.size, 1, none⟩ = some (.int .i64 a.s) ∧ W.cell? ⟨w.heap.size, 2, none⟩ = some (.int .i64 a.c) ∧ W.cell? ⟨w.heap.size, 3, none⟩ = some (.int .i64 a.m) ∧ W.cell? ⟨w.heap.size, 4, none⟩ = some (.int .i64 a.e)) ∧ Below w.heap.size w W)
                ((first | exact asIn5_drew hS0.out | assumption | exact asIn5_next (by assumption) (by assumption) | exact asIn5_next (by assumption) (below_as _ a) | exact asIn5_drew (asIn5_next hS0.out (below_as _ a)) | exact asIn5_base (by assumption) (Nat.lt_succ_self _) hb4))
                ((first
                  | (go_at_call 24; (with_reducible refine (hAs.out _ (asIn5_low (by assumption))).mono ?_); rintro r w3 ⟨v3, rfl, hown3, hb3⟩)
                  | (refine step_appR (by rfl) _ _ _ (by rfl) asV_len asV_one (by decide) 25 Tryd.underlying22 infoAs (by rfl) (by decide) (w.heap.size + 1) v3 _ (by rfl) ((hown3.from (show w.heap.size + 1 ≤ wq.drew.heap.size from hBs.out)).alloc _) (ys := [a]) (by rfl) (row_new asV_len _ [a] 1 rfl rfl (by decide)) hlk.out (by simp) (Nat.le_trans (show w.heap.size + 1 ≤ wq.drew.heap.size from hBs.out) (size_next hb3)) ?_; intro v4 w4 hown4 hb4)
                  | (refine step_appR (by rfl) _ _ _ (by rfl) asV_len asV_one (by decide) 25 Tryd.underlying22 infoAs (by rfl) (by decide) (w.heap.size + 1) v3 _ (by rfl) (hown3.from (Nat.le_trans hBs.out (below_as wq a).size)) (ys := [a]) (by rfl) (Row.below asV_len (w := (wq.alloc (asO a)).drew) (row_drew (row_new (w := wq) asV_len _ [a] 1 rfl rfl (by decide))) hb3 (Nat.le_refl _)) hlk.out (by simp) (Nat.le_trans hBs.out (Nat.le_trans (below_as wq a).size hb3.size)) ?_; intro v4 w4 hown4 hb4)))) | fail
              all_goals
                rename_i hh
                have hend := hidden (asIn5_low hh)
                have hr4 := hidden (hr.out _ hend.out)
                replace hown4 := hidden (hown4.from (Nat.le_succ _))
                have hB4 := hidden hend.out.size
                clear hh hb4 hb3 hown3 hS0 hb2 hBs hAs hr
                go_wp2_with (at_builtin; refine wpList_appR rfl _ _ 22 rfl asV_len asV_one (by decide) 25 Tryd.underlying22 infoAs rfl (by decide) w.heap.size _ (l.take k ++ [a]) rfl hown4.out (ys := l.drop k) rfl ((row_from asV_len hr4.out hk).2 _ rfl) (by simp; omega) (by simp; omega) hB4.out ?_)
                intro v5 w5 hown5 hb5
                have hr5 := hidden (hown5.row asV_len)
                have hf5 := hidden (fun b hb => (World.ownsRow.lt hown5 b hb).1)
                replace hb5 := hidden (hend.out.trans hb5)
                rw [hres.out] at hr5
                clear hown5
                go_wp2
                go_ret2
                exact hfin.out _ _ hr5.out hf5.out hb5.out
    · obtain ⟨q1, _, q3, _⟩ := addC_there ho hth
      have hfin := hidden (show ∀ w', Row asV 5 w' (.slice v1 (allA t).length v2) (allA t) → Below w.heap.size w w' → RefAddAt (.slice v1 (allA t).length v2) t a w (.returned (.tuple #[.slice v1 (allA t).length v2, .int .i64 107])) w' from fun w' h1 h2 => ⟨_, by rw [q1], by rw [q3]; exact h1, .inl rfl, h2⟩)
      clear q1 q3 hf hth hT ho
      generalize allA t = l at *
      go_wp2
      go_ret2
      exact hfin.out _ (hr.out _ hlow.out) hlow.out
  · obtain ⟨q1, q2, q3⟩ := addC_no (t := t) ho
    rw [q2] at hV
    unfold RefAddAt
    rw [q1, q3]
    clear q1 q2 q3 ho hT
    generalize allA t = l at *
    go_enter Tryd.func8, Tryd.ntmps8
    go_wp2_with fail
    refine hV.out.mono ?_
    rintro r w1 ⟨rfl, hb⟩
    replace hlow := hidden (hlow.out.trans (hb.mono hlow.out.size))
    clear hb hV
    go_wp2
    go_ret2
    exact ⟨_, rfl, hr.out _ hlow.out, .inl rfl, hlow.out⟩
end Go.Proofs.YtbjiiddlpfjipaaDoor
