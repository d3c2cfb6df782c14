/-
  The document's own AddEntry.
-/
import Derived.Test.YtfoiclgipnlfnaaDoorSched5
import Derived.Deep.DeepCutAuto
import Derived.Deep.CutBlock
namespace Go.Proofs.YtfoiclgipnlfnaaDoor
open Go.RowKit
set_option linter.unusedVariables false

def RefAddEAt (v : Value) (l : List En) (e : En) (w : World) (r : Ending) (w' : World) : Prop := ∃ v', r = .returned (.tuple #[v', .int .i64 (adC l e)]) ∧ Row enV 3 w' v' (nextE l e) ∧ (v' = v ∨ ∀ b, v'.ownBlock = some b → w.heap.size ≤ b) ∧ Below w.heap.size w w'
abbrev SelfE (w0 : World) (g : Nat) (ed ec : Int) (eo : Bool) (W : World) : Prop := (W.cell? ⟨g, 0, none⟩ = some (.int .i64 ed) ∧ W.cell? ⟨g, 1, none⟩ = some (.int .i64 ec) ∧ W.cell? ⟨g, 2, none⟩ = some (.bool eo)) ∧ Below w0.heap.size w0 W
section
variable {w0 W W' : World} {g B : Nat} {ed ec : Int} {eo : Bool}
theorem selfE_next (h : SelfE w0 g ed ec eo W) (hb : Below W.heap.size W W') : SelfE w0 g ed ec eo W' := ⟨tri_below (o := 0) (e := ⟨ed, ec, eo⟩) h.1 hb, h.2.trans (hb.mono h.2.size)⟩
theorem selfE_drew (h : SelfE w0 g ed ec eo W) : SelfE w0 g ed ec eo W.drew := ⟨h.1, h.2.drew⟩
theorem selfE_low (h : SelfE w0 g ed ec eo W) : Below w0.heap.size w0 W := h.2
theorem selfE_lt (h : SelfE w0 g ed ec eo W) : g < W.heap.size := World.block_lt_of_cell? W _ h.1.1
theorem selfE_base (h : SelfE w0 w0.heap.size ed ec eo W) (hB : w0.heap.size < B) (hb : Below B W W') : SelfE w0 w0.heap.size ed ec eo W' := by
  obtain ⟨⟨h1, h2, h3⟩, h6⟩ := h
  refine ⟨?_, h6.trans (hb.mono (Nat.le_of_lt hB))⟩
  refine ⟨?_, ?_, ?_⟩ <;> (rw [World.cell?_of_block (w := W) (hb.block _ hB)]; assumption)
theorem rowE_drew {w : World} {v : Value} {l : List En} (h : Row enV 3 w v l) : Row enV 3 w.drew v l := h.same enV_len (fun _ _ => rfl)
theorem size_nextE {w w' : World} {B : Nat} {o : Obj} (h : Below B w w') : w.heap.size ≤ (w'.alloc o).heap.size := by have := h.size; simp only [World.size_alloc]; omega
end
def AdRel (l : List En) (e : En) (w0 : World) (i : Value) (w : World) : Prop := ∃ k : Nat, k ≤ l.length ∧ i = .int .i64 (k : Int) ∧ LowE l e k ∧ SelfE w0 w0.heap.size e.d e.c e.o w
theorem hitE_at {l : List En} {e : En} {k : Nat} (hp : plE l e = k) (hk : k < l.length) : hitE l e = !decide (aheadE e (l.getD k enZ)) := by
  unfold hitE
  rw [hp, Bool.eq_iff_iff, decide_eq_true_iff, Bool.not_eq_true', decide_eq_false_iff_not]
  exact ⟨fun h => h.2, fun h => ⟨hk, h⟩⟩
/-- what AddEntry leaves, by its ways. -/
theorem refAdE_hit {l : List En} {e : En} {k : Nat} (ho : EnOk e) (hp : plE l e = k) (hh : hitE l e = true) : adC l e = 0 ∧ nextE l e = l.take k ++ e :: l.drop (k + 1) := by
  obtain ⟨q1, _, q3⟩ := adE_hit ho hh
  have hk := (of_decide_eq_true hh).1
  exact ⟨q1, by rw [q3, hp] ; rw [hp] at hk; rw [List.set_eq_take_append_cons_drop, if_pos hk]⟩
theorem refAdE_new {l : List En} {e : En} {k : Nat} (ho : EnOk e) (hp : plE l e = k) (hh : hitE l e = false) (hl : l.length < 64) : adC l e = 0 ∧ nextE l e = l.take k ++ e :: l.drop k := by
  obtain ⟨q1, _, q3⟩ := adE_new ho hh hl
  exact ⟨q1, by rw [q3, hp]; rfl⟩
theorem lowE_zero (l : List En) (e : En) : LowE l e 0 := fun p hp => absurd hp (Nat.not_lt_zero _)
theorem lowE_succ {l : List En} {e : En} {k : Nat} (h : LowE l e k) (ha : aheadE (l.getD k enZ) e) : LowE l e (k + 1) := fun p hp => by
  rcases Nat.lt_succ_iff_lt_or_eq.1 hp with q | rfl
  · exact h p q
  · exact ha
set_option maxHeartbeats 6400000 in
theorem refAddE_any (v : Value) (l : List En) (e : En) (w : World) (hl64 : l.length ≤ 64) (hr : Row enV 3 w v l) :
    Calls Tryd.prog 7 #[v, enA e] w (RefAddEAt v l e w) := by
  obtain ⟨v1, v2, rfl⟩ := row_slice hr
  have hV := hidden (refValidE_any e (w.alloc (enO e)))
  have hlow := hidden (below_en w e)
  have hn := hidden (fun W h => @en_new w W e h)
  replace hr := hidden (fun W (h : Below w.heap.size w W) => hr.below enV_len h (Nat.le_refl _))
  by_cases ho : EnOk e
  · rw [show vE e = 0 from if_pos ho] at hV
    obtain ⟨k, hpk⟩ : ∃ k, plE l e = k := ⟨_, rfl⟩
    have hpl : PlaceE l e k := by rw [← hpk]; exact plE_place l e
    have hah := hidden (fun x W => refAheadE_any x e W)
    have hah2 := hidden (fun x W => refAheadE_any e x W)
    replace hpk := hidden hpk
    replace hpl := hidden hpl
    replace ho := hidden ho
    obtain ⟨ed, ec, eo⟩ := e
    go_enter Tryd.func7, Tryd.ntmps7
    go_wp2_with fail
    refine hV.out.mono ?_
    rintro r w1 ⟨rfl, hb⟩
    have hself := hn.out _ hb
    replace hlow := hidden (hlow.out.trans (hb.mono hlow.out.size))
    have hs1 := hidden (show SelfE w w.heap.size ed ec eo w1 from ⟨⟨hself.1, hself.2.1, hself.2.2⟩, hlow.out⟩)
    clear hb hV hself hn hlow
    go_upto_block 0 with (fail)
    go_cut [7] (fun s7 wx => s7 = .int .i64 (k : Int) ∧ SelfE w w.heap.size ed ec eo wx)
    case first =>
      clear hah2
      go_wp2_with fail
      go_loopw [7] (fun i wr => AdRel l ⟨ed, ec, eo⟩ w i wr) (fun i _ => l.length - (RowKit.intOf i).toNat)
      case atStart => exact ⟨0, Nat.zero_le _, rfl, lowE_zero _ _, hs1.out⟩
      case round =>
        obtain ⟨j, hj, rfl, hlo, hse⟩ := hrel
        clear hs1
        replace hlo := hidden hlo
        by_cases hlt : j < l.length
        · obtain ⟨b, o, rfl, q⟩ := rowE_at (hr.out _ (selfE_low hse)) j hlt
          have hs0 := hidden (show TriSelf w b (o + j * 3) (l.getD j enZ) w.heap.size ed ec eo wr from ⟨q, hse.1, hse.2⟩)
          have hlo2 := hidden (fun h => @lowE_succ l ⟨ed, ec, eo⟩ j hlo.out h)
          have hend := hidden (fun (h : ¬ aheadE (l.getD j enZ) ⟨ed, ec, eo⟩) => show j = k from PlaceE.one ⟨hj, hlo.out, fun _ => h⟩ hpl.out)
          have hah1 := hidden (hah.out (l.getD j enZ))
          have hjI : (j : Int) < (l.length : Int) := by omega
          clear q hse hah
          generalize l.getD j enZ = x at *
          generalize hq : decide (aheadE x ⟨ed, ec, eo⟩) = q at *
          replace hq := hidden hq
          go_wp2_with fail
          go_region_held3 (fun W => (W.cell? ⟨b, o + j * 3, none⟩ = some (.int .i64 x.d) ∧ W.cell? ⟨b, o + j * 3 + 1, none⟩ = some (.int .i64 x.c) ∧ W.cell? ⟨b, o + j * 3 + 2, none⟩ = some (.bool x.o)) ∧ (W.cell? ⟨w.heap.size, 0, none⟩ = some (.int .i64 ed) ∧ W.cell? ⟨w.heap.size, 1, none⟩ = some (.int .i64 ec) ∧ W.cell? ⟨w.heap.size, 2, none⟩ = some (.bool eo)) ∧ Below w.heap.size w W)
            ((first | exact triSelf_drew hs0.out | assumption | exact triSelf_next (by assumption) (by assumption)))
            ((go_at_call 19; with_reducible refine (hah1.out _).mono ?_; rintro r w' ⟨rfl, hb⟩))
          rename_i hh
          have hse := hidden (show SelfE w w.heap.size ed ec eo _ from ⟨hh.2.1, hh.2.2⟩)
          clear hh hs0 hah1
          cases q
          · have := hend.out (of_decide_eq_false hq.out)
            subst this
            go_wp2
            go_meet
            exact ⟨rfl, hse.out⟩
          · replace hlo := hidden (hlo2.out (of_decide_eq_true hq.out))
            go_wp2
            go_roundw
            case rel => exact ⟨j + 1, hlt, by go_num, hlo.out, hse.out⟩
            case measure => simp [RowKit.intOf]; omega
        · obtain rfl : j = l.length := by omega
          have hjk := PlaceE.one ⟨Nat.le_refl _, hlo.out, fun h => absurd h (Nat.lt_irrefl _)⟩ hpl.out
          subst hjk
          replace hse := hidden hse
          go_wp2_with fail
          go_quiet (fail)
          go_wp2
          go_meet
          exact ⟨rfl, ⟨hse.out.1, below_drewN hse.out.2⟩⟩
    case rest =>
      obtain ⟨rfl, hse⟩ := hcut
      clear hs1 hah
      have hk := hpl.out.1
      obtain ⟨_, hc1, hm1, hnone⟩ := row_cap (hr.out _ (selfE_low hse))
      have hkc : (k : Int) ≤ (v2 : Int) := by omega
      have hkl0 : (k : Int) ≤ (l.length : Int) := by omega
      have hAs := hidden (fun W (h : Below w.heap.size w W) => entrys_any (.slice v1 k v2) (l.take k) W (row_take enV_len (hr.out W h) hk) (by simp; omega))
      have hlk := hidden (show (l.take k).length ≤ 1000000 by simp; omega)
      have hBs := hidden (show w.heap.size + 1 ≤ wc.heap.size from selfE_lt hse)
      have hS0 := hidden hse
      clear hse hpl
      go_upto_region 7 with (fail)
      generalize wc = wq at *
      go_cut [8] (fun s8 wx => OwnEn w.heap.size wx s8 (l.take k ++ [⟨ed, ec, eo⟩]) ∧ SelfE w w.heap.size ed ec eo wx)
      case first =>
        go_region_held3 (fun W => (W.cell? ⟨w.heap.size, 0, none⟩ = some (.int .i64 ed) ∧ W.cell? ⟨w.heap.size, 1, none⟩ = some (.int .i64 ec) ∧ W.cell? ⟨w.heap.size, 2, none⟩ = some (.bool eo)) ∧ Below w.heap.size w W)
          ((first | exact selfE_drew hS0.out | assumption | exact selfE_next (by assumption) (by assumption) | exact selfE_next (by assumption) (below_en _ ⟨ed, ec, eo⟩) | exact selfE_drew (selfE_next hS0.out (below_en _ ⟨ed, ec, eo⟩)) | exact selfE_base (by assumption) (Nat.lt_succ_self _) hb4))
          ((first
            | (go_at_call 20; (with_reducible refine (hAs.out _ (selfE_low (by assumption))).mono ?_); rintro r w3 ⟨v3, rfl, hown3, hb3⟩)
            | (refine step_appR (by rfl) _ _ _ (by rfl) enV_len enV_one (by decide) 25 Tryd.underlying22 infoEn (by rfl) (by decide) (w.heap.size + 1) v3 _ (by rfl) ((hown3.from (show w.heap.size + 1 ≤ wq.drew.heap.size from hBs.out)).alloc _) (ys := [⟨ed, ec, eo⟩]) (by rfl) (row_new enV_len _ [⟨ed, ec, eo⟩] 1 rfl rfl (by decide)) hlk.out (by simp) (Nat.le_trans (show w.heap.size + 1 ≤ wq.drew.heap.size from hBs.out) (size_nextE hb3)) ?_; intro v4 w4 hown4 hb4)
            | (refine step_appR (by rfl) _ _ _ (by rfl) enV_len enV_one (by decide) 25 Tryd.underlying22 infoEn (by rfl) (by decide) (w.heap.size + 1) v3 _ (by rfl) (hown3.from (Nat.le_trans hBs.out (below_en wq ⟨ed, ec, eo⟩).size)) (ys := [⟨ed, ec, eo⟩]) (by rfl) (Row.below enV_len (w := (wq.alloc (enO ⟨ed, ec, eo⟩)).drew) (rowE_drew (row_new (w := wq) enV_len _ [⟨ed, ec, eo⟩] 1 rfl rfl (by decide))) hb3 (Nat.le_refl _)) hlk.out (by simp) (Nat.le_trans hBs.out (Nat.le_trans (below_en wq ⟨ed, ec, eo⟩).size hb3.size)) ?_; intro v4 w4 hown4 hb4)))
        all_goals
          rename_i hh
          have hend := hidden (show SelfE w w.heap.size ed ec eo _ from hh)
          replace hown4 := hidden (hown4.from (Nat.le_succ _))
          clear hh hb4 hb3 hown3 hS0 hBs hAs hr
          go_wp2
          go_meet
          exact ⟨hown4.out, hend.out⟩
      case rest =>
        obtain ⟨hown, hse⟩ := hcut
        clear hS0 hBs hAs
        replace hown := hidden hown
        have hlow := hidden (selfE_low hse)
        have hlI64 : (l.length : Int) ≤ 64 := by omega
        by_cases hlt : k < l.length
        · obtain ⟨b, o, e1, q⟩ := rowE_at (hr.out _ hlow.out) k hlt
          subst e1
          have hs0 := hidden (show TriSelf w b (o + k * 3) (l.getD k enZ) w.heap.size ed ec eo wc from ⟨q, hse.1, hse.2⟩)
          have hhit := hidden (hitE_at (e := ⟨ed, ec, eo⟩) hpk.out hlt)
          have hah1 := hidden (hah2.out (l.getD k enZ))
          have hlI : (k : Int) < (l.length : Int) := by omega
          clear q hse hah2 hlow
          generalize l.getD k enZ = x at *
          generalize decide (aheadE ⟨ed, ec, eo⟩ x) = q at *
          go_wp2_with fail
          go_region_held3 (fun W => (W.cell? ⟨b, o + k * 3, none⟩ = some (.int .i64 x.d) ∧ W.cell? ⟨b, o + k * 3 + 1, none⟩ = some (.int .i64 x.c) ∧ W.cell? ⟨b, o + k * 3 + 2, none⟩ = some (.bool x.o)) ∧ (W.cell? ⟨w.heap.size, 0, none⟩ = some (.int .i64 ed) ∧ W.cell? ⟨w.heap.size, 1, none⟩ = some (.int .i64 ec) ∧ W.cell? ⟨w.heap.size, 2, none⟩ = some (.bool eo)) ∧ Below w.heap.size w W)
            ((first | exact triSelf_drew hs0.out | assumption | exact triSelf_next (by assumption) (by assumption)))
            ((go_at_call 19; with_reducible refine (hah1.out _).mono ?_; rintro r w' ⟨rfl, hb⟩; replace hown := hidden (OwnR.below (w := wc.drew) hown.out hb (Nat.le_refl _))))
          rename_i hh
          have hend := hidden (triSelf_low hh)
          have hr4 := hidden (hr.out _ hend.out)
          have hB4 := hidden hend.out.size
          clear hh hs0 hah1
          cases q
          · obtain ⟨q1, q2⟩ := refAdE_hit ho.out hpk.out hhit.out
            have hfin := hidden (show ∀ v' w', Row enV 3 w' v' (l.take k ++ ⟨ed, ec, eo⟩ :: l.drop (k + 1)) → (∀ b, v'.ownBlock = some b → w.heap.size ≤ b) → Below w.heap.size w w' → RefAddEAt (.slice (some ⟨b, o, none⟩) l.length v2) l ⟨ed, ec, eo⟩ w (.returned (.tuple #[v', .int .i64 0])) w' from fun v' w' h1 h3 h2 => ⟨v', by rw [q1], by rw [q2]; exact h1, .inr h3, h2⟩)
            have hk10 : (0 : Int) ≤ (k : Int) + 1 := by omega
            have hk1I : (k : Int) + 1 ≤ (l.length : Int) := by omega
            have hkn : ((k : Int) + 1).toNat = k + 1 := by omega
            have hw1 : IntKind.i64.wrap ((k : Int) + 1) = (k : Int) + 1 := Go.IntWalk.i64_in _ (by omega)
            clear q1 q2 hhit hr
            by_cases hck : v2 = k + 1
            · have hrd := hidden (show Row enV 3 w' (.slice (some ⟨b, o, none⟩) (l.length - (k + 1)) 0) (l.drop (k + 1)) by
                have h := (row_from (k := k + 1) enV_len hr4.out (by omega)).1 hck
                rw [show v2 - (k + 1) = 0 by omega] at h
                exact h)
              go_wp2_with (at_builtin; refine wpList_appR rfl _ _ 22 rfl enV_len enV_one (by decide) 25 Tryd.underlying22 infoEn rfl (by decide) w.heap.size _ (l.take k ++ [(⟨ed, ec, eo⟩ : En)]) rfl hown.out (ys := l.drop (k + 1)) rfl hrd.out (by simp; omega) (by simp; omega) hB4.out ?_)
              intro v5 w5 hown5 hb5
              have hr5 := hidden (hown5.row enV_len)
              have hf5 := hidden (fun b hb => (World.ownsRow.lt hown5 b hb).1)
              replace hb5 := hidden (hend.out.trans hb5)
              clear hown5
              go_wp2
              go_ret2
              exact hfin.out _ _ (by simpa using hr5.out) hf5.out hb5.out
            · have hrd := hidden (row_drop (k := k + 1) (m := l.length - (k + 1)) (c' := v2 - (k + 1)) enV_len hr4.out (by omega) (by omega) (by omega))
              go_wp2_with (at_builtin; refine wpList_appR rfl _ _ 22 rfl enV_len enV_one (by decide) 25 Tryd.underlying22 infoEn rfl (by decide) w.heap.size _ (l.take k ++ [(⟨ed, ec, eo⟩ : En)]) rfl hown.out (ys := l.drop (k + 1)) rfl hrd.out (by simp; omega) (by simp; omega) hB4.out ?_)
              intro v5 w5 hown5 hb5
              have hr5 := hidden (hown5.row enV_len)
              have hf5 := hidden (fun b hb => (World.ownsRow.lt hown5 b hb).1)
              replace hb5 := hidden (hend.out.trans hb5)
              clear hown5
              go_wp2
              go_ret2
              exact hfin.out _ _ (by simpa using hr5.out) hf5.out hb5.out
          · have hnh : hitE l ⟨ed, ec, eo⟩ = false := hhit.out
            have hck : ¬ v2 = k := by omega
            by_cases h64 : 64 ≤ l.length
            · obtain ⟨q1, _, q3⟩ := adE_full ho.out hnh h64
              have hfin := hidden (show ∀ w', Row enV 3 w' (.slice (some ⟨b, o, none⟩) l.length v2) l → Below w.heap.size w w' → RefAddEAt (.slice (some ⟨b, o, none⟩) l.length v2) l ⟨ed, ec, eo⟩ w (.returned (.tuple #[.slice (some ⟨b, o, none⟩) l.length v2, .int .i64 105])) w' from fun w' h1 h2 => ⟨_, by rw [q1], by rw [q3]; exact h1, .inl rfl, h2⟩)
              have hge : (64 : Int) ≤ (l.length : Int) := by omega
              clear q1 q3 hhit hnh
              go_wp2
              go_ret2
              exact hfin.out _ hr4.out hend.out
            · obtain ⟨q1, q2⟩ := refAdE_new ho.out hpk.out hnh (by omega)
              have hfin := hidden (show ∀ v' w', Row enV 3 w' v' (l.take k ++ ⟨ed, ec, eo⟩ :: l.drop k) → (∀ b, v'.ownBlock = some b → w.heap.size ≤ b) → Below w.heap.size w w' → RefAddEAt (.slice (some ⟨b, o, none⟩) l.length v2) l ⟨ed, ec, eo⟩ w (.returned (.tuple #[v', .int .i64 0])) w' from fun v' w' h1 h3 h2 => ⟨v', by rw [q1], by rw [q2]; exact h1, .inr h3, h2⟩)
              have hge : ¬ (64 : Int) ≤ (l.length : Int) := by omega
              have hrd := hidden (row_drop (k := k) (m := l.length - k) (c' := v2 - k) enV_len hr4.out (by omega) (by omega) (by omega))
              clear q1 q2 hhit hnh hr
              go_wp2_with (at_builtin; refine wpList_appR rfl _ _ 22 rfl enV_len enV_one (by decide) 25 Tryd.underlying22 infoEn rfl (by decide) w.heap.size _ (l.take k ++ [(⟨ed, ec, eo⟩ : En)]) rfl hown.out (ys := l.drop k) rfl hrd.out (by simp; omega) (by simp; omega) hB4.out ?_)
              intro v5 w5 hown5 hb5
              have hr5 := hidden (hown5.row enV_len)
              have hf5 := hidden (fun b hb => (World.ownsRow.lt hown5 b hb).1)
              replace hb5 := hidden (hend.out.trans hb5)
              clear hown5
              go_wp2
              go_ret2
              exact hfin.out _ _ (by simpa using hr5.out) hf5.out hb5.out
        · have hkl : k = l.length := by omega
          have hnh : hitE l ⟨ed, ec, eo⟩ = false := hitE_end (hpk.out.trans hkl)
          have hkI : decide ((k : Int) < (l.length : Int)) = false := decide_eq_false (by omega)
          have hkN : decide (k < l.length) = false := decide_eq_false (by omega)
          replace hkl := hidden hkl
          clear hse hah2
          have hr4 := hidden (fun m => hr.out (wc.drewN m) (below_drewN hlow.out))
          by_cases h64 : 64 ≤ l.length
          · obtain ⟨q1, _, q3⟩ := adE_full ho.out hnh h64
            have hfin := hidden (show ∀ w', Row enV 3 w' (.slice (v1) l.length v2) l → Below w.heap.size w w' → RefAddEAt (.slice (v1) l.length v2) l ⟨ed, ec, eo⟩ w (.returned (.tuple #[.slice (v1) l.length v2, .int .i64 105])) w' from fun w' h1 h2 => ⟨_, by rw [q1], by rw [q3]; exact h1, .inl rfl, h2⟩)
            have hge : (64 : Int) ≤ (l.length : Int) := by omega
            clear q1 q3 hnh
            go_wp2_with fail
            go_quiet (fail)
            go_wp2
            go_ret2
            exact hfin.out _ (hr4.out _) (below_drewN hlow.out)
          · obtain ⟨q1, q2⟩ := refAdE_new ho.out hpk.out hnh (by omega)
            have hfin := hidden (show ∀ v' w', Row enV 3 w' v' (l.take k ++ ⟨ed, ec, eo⟩ :: l.drop k) → (∀ b, v'.ownBlock = some b → w.heap.size ≤ b) → Below w.heap.size w w' → RefAddEAt (.slice (v1) l.length v2) l ⟨ed, ec, eo⟩ w (.returned (.tuple #[v', .int .i64 0])) w' from fun v' w' h1 h3 h2 => ⟨v', by rw [q1], by rw [q2]; exact h1, .inr h3, h2⟩)
            have hge : ¬ (64 : Int) ≤ (l.length : Int) := by omega
            clear q1 q2 hnh hr
            by_cases hck : v2 = k
            · have hck' := hidden hck
              go_wp2_with fail
              go_quiet (fail)
              have hend := hidden (below_drewN (m := nq) hlow.out)
              replace hown := hidden (show OwnEn w.heap.size (wc.drewN nq) _ _ from hown.out)
              have hB4 := hidden hend.out.size
              replace hr4 := hidden (hr4.out nq)
              generalize wc.drewN nq = wd at *
              have hrd := hidden (show Row enV 3 wd (.slice v1 (l.length - k) 0) (l.drop k) by
                have h := (row_from (k := k) enV_len hr4.out hk).1 hck'.out
                rw [show v2 - k = 0 by have := hck'.out; have := hkl.out; omega] at h
                exact h)
              go_wp2_with (at_builtin; refine wpList_appR rfl _ _ 22 rfl enV_len enV_one (by decide) 25 Tryd.underlying22 infoEn rfl (by decide) w.heap.size _ (l.take k ++ [(⟨ed, ec, eo⟩ : En)]) rfl hown.out (ys := l.drop k) rfl hrd.out (by simp; omega) (by simp; omega) hB4.out ?_)
              intro v5 w5 hown5 hb5
              have hr5 := hidden (hown5.row enV_len)
              have hf5 := hidden (fun b hb => (World.ownsRow.lt hown5 b hb).1)
              replace hb5 := hidden (hend.out.trans hb5)
              clear hown5
              go_wp2
              go_ret2
              exact hfin.out _ _ (by simpa using hr5.out) hf5.out hb5.out
            · obtain ⟨ad, rfl⟩ : ∃ ad, v1 = some ad := by
                cases v1 with
                | none => have := (hnone rfl).2; have := hkl.out; omega
                | some ad => exact ⟨ad, rfl⟩
              go_wp2_with fail
              go_quiet (fail)
              have hend := hidden (below_drewN (m := nq) hlow.out)
              replace hown := hidden (show OwnEn w.heap.size (wc.drewN nq) _ _ from hown.out)
              have hB4 := hidden hend.out.size
              replace hr4 := hidden (hr4.out nq)
              generalize wc.drewN nq = wd at *
              have hrd := hidden ((row_from (k := k) enV_len hr4.out hk).2 _ rfl)
              go_wp2_with (at_builtin; refine wpList_appR rfl _ _ 22 rfl enV_len enV_one (by decide) 25 Tryd.underlying22 infoEn rfl (by decide) w.heap.size _ (l.take k ++ [(⟨ed, ec, eo⟩ : En)]) rfl hown.out (ys := l.drop k) rfl hrd.out (by simp; omega) (by simp; omega) hB4.out ?_)
              intro v5 w5 hown5 hb5
              have hr5 := hidden (hown5.row enV_len)
              have hf5 := hidden (fun b hb => (World.ownsRow.lt hown5 b hb).1)
              replace hb5 := hidden (hend.out.trans hb5)
              clear hown5
              go_wp2
              go_ret2
              exact hfin.out _ _ (by simpa using hr5.out) hf5.out hb5.out
  · obtain ⟨q1, q2, q3⟩ := adE_no (l := l) ho
    rw [q2] at hV
    unfold RefAddEAt
    rw [q1, q3]
    clear q1 q2 q3 ho hn
    go_enter Tryd.func7, Tryd.ntmps7
    go_wp2_with fail
    refine hV.out.mono ?_
    rintro r w1 ⟨rfl, hb⟩
    replace hlow := hidden (hlow.out.trans (hb.mono hlow.out.size))
    clear hb hV
    go_wp2
    go_ret2
    exact ⟨_, rfl, hr.out _ hlow.out, .inl rfl, hlow.out⟩
end Go.Proofs.YtfoiclgipnlfnaaDoor
