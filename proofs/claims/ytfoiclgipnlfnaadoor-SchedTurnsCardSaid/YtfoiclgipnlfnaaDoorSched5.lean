/-
  Add: what is refused, replaced, taken in.
-/
import Derived.Test.YtfoiclgipnlfnaaDoorSched4
import Derived.Test.YtfoiclgipnlfnaaDoorCopyR
namespace Go.Proofs.YtfoiclgipnlfnaaDoor
open Go.RowKit
set_option linter.unusedVariables false

/-- block g holds 64 places and a count. -/
structure RawAt (w : World) (g : Nat) (T : List En) (n : Int) : Prop where
  len : T.length = 64
  row : w.heap[g]? = some (.cells (T.flatMap enV ++ [Value.int .i64 n]).toArray 28 (0, 0))
section
variable {w w' : World} {g : Nat} {T : List En} {n : Int}
theorem RawAt.flen (h : RawAt w g T n) : (T.flatMap enV ++ [Value.int .i64 n]).length = 193 := by rw [List.length_append, tabE_len h.len]; rfl
theorem RawAt.drew (h : RawAt w g T n) : RawAt w.drew g T n := ⟨h.len, h.row⟩
theorem RawAt.drewN (h : RawAt w g T n) (k : Nat) : RawAt (w.drewN k) g T n := ⟨h.len, h.row⟩
theorem RawAt.lt (h : RawAt w g T n) : g < w.heap.size := (Array.getElem?_eq_some_iff.1 h.row).1
theorem RawAt.below (h : RawAt w g T n) (hb : Below w.heap.size w w') : RawAt w' g T n := ⟨h.len, (hb.block _ h.lt).trans h.row⟩
theorem RawAt.count (h : RawAt w g T n) : w.cell? ⟨g, 192, none⟩ = some (.int .i64 n) := by
  rw [cell_of_row _ _ _ _ _ _ h.row, List.getElem?_toArray, List.getElem?_append_right (by rw [tabE_len h.len]; exact Nat.le_refl _), tabE_len h.len]
  rfl
theorem RawAt.tri (h : RawAt w g T n) {k : Nat} (hk : k < 64) : TriAt w g (k * 3) (T.getD k enZ) := by
  have key : ∀ j, j < 3 → w.cell? ⟨g, k * 3 + j, none⟩ = (enV (T.getD k enZ))[j]? := fun j hj => by
    rw [cell_of_row _ _ _ _ _ _ h.row, List.getElem?_toArray, List.getElem?_append_left (by rw [tabE_len h.len]; omega), flatR_at enV_len enZ T k j (by rw [h.len]; exact hk) hj]
  exact ⟨key 0 (by omega), key 1 (by omega), key 2 (by omega)⟩
theorem RawAt.frozen (h : RawAt w g T n) (j : Nat) : w.frozen? ⟨g, j, none⟩ = false := by
  have := h.row
  simp [World.frozen?, this]
theorem RawAt.seg (h : RawAt w g T n) {p : Nat} {ys : List En} (hp : p + ys.length ≤ 64) : RawAt (w.setCells g (p * 3) (ys.flatMap enV)) g (T.take p ++ ys ++ T.drop (p + ys.length)) n := by
  have hl := h.len
  have hy := flatR_len enV_len ys
  have hF := tabE_len hl
  refine ⟨by simp; omega, ?_⟩
  have e := heap_setCells_row (ys.flatMap enV) (p * 3) w _ (by rw [h.flen, hy]; omega) h.row
  rw [e, hy]
  congr 2
  rw [List.flatMap_append, List.flatMap_append, flatR_take enV_len, flatR_drop enV_len, List.take_append_of_le_length (by rw [hF]; omega), List.drop_append_of_le_length (by rw [hF]; omega), show p * 3 + ys.length * 3 = (p + ys.length) * 3 by omega]
  simp
theorem RawAt.put (h : RawAt w g T n) {k : Nat} (hk : k < 64) (e : En) : RawAt (w.setCells g (k * 3) (enV e)) g (T.set k e) n := by
  have h1 := h.seg (p := k) (ys := [e]) hk
  rw [List.append_assoc] at h1
  rw [List.set_eq_take_append_cons_drop, if_pos (by rw [h.len]; exact hk)]
  exact h1
theorem RawAt.cnt (h : RawAt w g T n) (m : Int) : RawAt (w.setCell ⟨g, 192, none⟩ (.int .i64 m)) g T m := by
  refine ⟨h.len, ?_⟩
  rw [heap_setCell_row h.row]
  congr 2
  rw [List.setIfInBounds_toArray, List.set_append_right _ _ (by rw [tabE_len h.len]; exact Nat.le_refl _), tabE_len h.len]
  rfl
end
theorem SchAt.raw {w : World} {g : Nat} {l : List En} (h : SchAt w g l) : ∃ T, RawAt w g T (l.length : Int) ∧ T.take l.length = l := by
  obtain ⟨T, h1, h2, h3⟩ := h.ex
  exact ⟨T, ⟨h1, h3⟩, h2⟩
theorem RawAt.sch {w : World} {g : Nat} {T : List En} {l : List En} (h : RawAt w g T (l.length : Int)) (ht : T.take l.length = l) (hl : l.length ≤ 64) (hs : SortedE l) : SchAt w g l := ⟨⟨T, h.len, ht, h.row⟩, hl, hs⟩
/-- the places behind an entry that was taken in. -/
theorem ins_take {T l : List En} {k : Nat} (hT : T.length = 64) (ht : T.take l.length = l) (hk : k ≤ l.length) (h64 : l.length < 64) (e : En) : ((T.take (k + 1) ++ l.drop k ++ T.drop (k + 1 + (l.drop k).length)).set k e).take (l.length + 1) = insE l k e := by
  have hA : (T.take (k + 1)).length = k + 1 := by rw [List.length_take]; omega
  have hA2 : (T.take (k + 1)).take k = T.take k := by rw [List.take_take, Nat.min_eq_left (by omega)]
  have hlk : T.take k = l.take k := by
    have h1 : (T.take l.length).take k = l.take k := by rw [ht]
    rw [← h1, List.take_take, Nat.min_eq_left hk]
  have hD : (l.drop k).length = l.length - k := by rw [List.length_drop]
  have hlk2 : (l.take k).length = k := by rw [List.length_take]; omega
  generalize T.drop (k + 1 + (l.drop k).length) = R
  generalize T.take (k + 1) = A at *
  have e1 : (A ++ (l.drop k ++ R)).take k = l.take k := by rw [List.take_append_of_le_length (by rw [hA]; omega), hA2, hlk]
  have e2 : (A ++ (l.drop k ++ R)).drop (k + 1) = l.drop k ++ R := by rw [List.drop_append_of_le_length (by rw [hA]; exact Nat.le_refl _), List.drop_of_length_le (by rw [hA]; exact Nat.le_refl _), List.nil_append]
  rw [List.append_assoc, List.set_eq_take_append_cons_drop, if_pos (by rw [List.length_append, hA]; omega), e1, e2]
  unfold insE
  rw [show l.take k ++ e :: (l.drop k ++ R) = (l.take k ++ e :: l.drop k) ++ R by simp]
  exact List.take_left' (by rw [List.length_append, List.length_cons, hlk2, hD]; omega)
/-- whereto the entries behind a place go. -/
theorem move_to {T l : List En} {k : Nat} (hT : T.length = 64) (hk : k ≤ l.length) (h64 : l.length < 64) (g : Nat) (n : Int) :
    ∃ off, (if k = 63 then (⟨g, 0, none⟩ : Addr) else ⟨g, (k + 1) * 3, none⟩) = ⟨g, off, none⟩ ∧ (∀ W, RawAt W g T n → RawAt (W.setCells g off ((l.drop k).flatMap enV)) g (T.take (k + 1) ++ l.drop k ++ T.drop (k + 1 + (l.drop k).length)) n) ∧ off + (l.length - k) * 3 ≤ 193 := by
  have hD : (l.drop k).length = l.length - k := by rw [List.length_drop]
  by_cases h : k = 63
  · have e : l.drop k = [] := List.drop_of_length_le (by omega)
    refine ⟨0, if_pos h, fun W hW => ?_, by omega⟩
    rw [e, List.length_nil, Nat.add_zero, List.append_nil, List.take_append_drop]
    exact hW
  · exact ⟨(k + 1) * 3, if_neg h, fun W hW => hW.seg (p := k + 1) (ys := l.drop k) (by omega), by omega⟩
/-- what Add leaves. -/
def AddEAt (A : Nat → Addr) (l : List En) (g : Nat) (e : En) (w : World) (r : Ending) (w' : World) : Prop := r = .returned (errOf A (adC l e)) ∧ SchAt w' g (nextE l e) ∧ Trd (· = g) w w'
abbrev CntSelf (w0 : World) (g : Nat) (n : Int) (b : Nat) (ed ec : Int) (eo : Bool) (W : World) : Prop :=
  W.cell? ⟨g, 192, none⟩ = some (.int .i64 n) ∧ (W.cell? ⟨b, 0, none⟩ = some (.int .i64 ed) ∧ W.cell? ⟨b, 1, none⟩ = some (.int .i64 ec) ∧ W.cell? ⟨b, 2, none⟩ = some (.bool eo)) ∧ Below w0.heap.size w0 W
theorem cntSelf_next {w0 W W' : World} {g b : Nat} {n ed ec : Int} {eo : Bool} (h : CntSelf w0 g n b ed ec eo W) (hb : Below W.heap.size W W') : CntSelf w0 g n b ed ec eo W' := by
  refine ⟨?_, tri_below (o := 0) (e := ⟨ed, ec, eo⟩) h.2.1 hb, h.2.2.trans (hb.mono h.2.2.size)⟩
  rw [World.cell?_of_block (w := W) (hb.block _ (World.block_lt_of_cell? W _ h.1))]; exact h.1
theorem cntSelf_drew {w0 W : World} {g b : Nat} {n ed ec : Int} {eo : Bool} (h : CntSelf w0 g n b ed ec eo W) : CntSelf w0 g n b ed ec eo W.drew := ⟨h.1, h.2.1, h.2.2.drew⟩
theorem cntSelf_low {w0 W : World} {g b : Nat} {n ed ec : Int} {eo : Bool} (h : CntSelf w0 g n b ed ec eo W) : Below w0.heap.size w0 W := h.2.2
theorem cntSelf_self {w0 W : World} {g b : Nat} {n ed ec : Int} {eo : Bool} (h : CntSelf w0 g n b ed ec eo W) : W.cell? ⟨b, 0, none⟩ = some (.int .i64 ed) ∧ W.cell? ⟨b, 1, none⟩ = some (.int .i64 ec) ∧ W.cell? ⟨b, 2, none⟩ = some (.bool eo) := h.2.1
set_option maxHeartbeats 6400000 in
theorem add_anyE (A : Nat → Addr) (l : List En) (g : Nat) (e : En) (w : World) (hT : SchAt w g l) (hE : ErrsOn [2, 4] w A) :
    Calls Tryd.prog 11 #[.pointer (some ⟨g, 0, none⟩), enA e] w (AddEAt A l g e w) := by
  have hV := hidden (validE_any A e (w.alloc (enO e)) ((hE.sub (by simp)).below (below_en w e) (Nat.le_refl _)))
  have hlow := hidden (below_en w e)
  have hS := hidden (fun W (h : Below w.heap.size w W) => hT.below h)
  have hE' := hidden (fun W (h : Below w.heap.size w W) => show W.cell? ⟨1, 0, none⟩ = some (errAt (A 4)) from (hE.below h (Nat.le_refl _)) 4 (by simp))
  have hBs := hidden (fun W (h : Below w.heap.size w W) => bsearch_any (some ⟨g, 0, none⟩) 64 l e W ((hT.below h).row) (by have := hT.le; omega) hT.sorted)
  have hn := hidden (fun W h => @en_new w W e h)
  have hl64 := hT.le
  have hnx := hidden (hT.sorted.next e)
  have hgw := hidden hT.lt
  have hpl := hidden (plE_place l e).1
  clear hT hE
  obtain ⟨ed, ec, eo⟩ := e
  by_cases ho : EnOk ⟨ed, ec, eo⟩
  · rw [show vE ⟨ed, ec, eo⟩ = 0 from if_pos ho, errOf_fine] at hV
    go_enter Tryd.func11, Tryd.ntmps11
    go_wp2_with fail
    refine hV.out.mono ?_
    rintro r w1 ⟨rfl, hb⟩
    have hlI : (l.length : Int) ≤ 64 := by omega
    have hself := hn.out _ hb
    replace hlow := hidden (hlow.out.trans (hb.mono hlow.out.size))
    have hs0 := hidden (show CntSelf w g (l.length : Int) w.heap.size ed ec eo w1 from ⟨(hS.out _ hlow.out).count, ⟨hself.1, hself.2.1, hself.2.2⟩, hlow.out⟩)
    clear hb hV hself hn
    go_wp2_with fail
    go_region_held3 (fun W => W.cell? ⟨g, 192, none⟩ = some (.int .i64 (l.length : Int)) ∧ (W.cell? ⟨w.heap.size, 0, none⟩ = some (.int .i64 ed) ∧ W.cell? ⟨w.heap.size, 1, none⟩ = some (.int .i64 ec) ∧ W.cell? ⟨w.heap.size, 2, none⟩ = some (.bool eo)) ∧ Below w.heap.size w W)
      ((first | exact cntSelf_drew hs0.out | assumption | exact cntSelf_next (by assumption) (by assumption)))
      ((go_at_call 25; (with_reducible refine (hBs.out _ (cntSelf_low (by assumption))).mono ?_); rintro r w' ⟨rfl, hb⟩))
    rename_i hh
    have hend := hidden (cntSelf_low hh)
    obtain ⟨n0, n1, n2⟩ := cntSelf_self hh
    clear hh hs0 hlow hBs
    replace hS := hidden (hS.out _ hend.out)
    by_cases hhit : hitE l ⟨ed, ec, eo⟩ = true
    · obtain ⟨q1, _, q3⟩ := adE_hit ho hhit
      have hkl := (of_decide_eq_true hhit).1
      obtain ⟨T, hR, hTk⟩ := hS.out.raw
      have hfin := hidden (show ∀ W, RawAt W g (T.set (plE l ⟨ed, ec, eo⟩) ⟨ed, ec, eo⟩) (l.length : Int) → Trd (· = g) w W → AddEAt A l g ⟨ed, ec, eo⟩ w (.returned .nilIface) W from fun W h1 h2 => ⟨by rw [q1]; rfl, by
        have hs := hnx.out
        rw [q3] at hs ⊢
        exact RawAt.sch (by rw [List.length_set]; exact h1) (by rw [List.length_set, List.take_set, hTk]) (by rw [List.length_set]; exact hl64) hs, h2⟩)
      rw [hhit]
      clear q1 q3 hnx hTk hhit hpl hE' ho hS
      generalize plE l ⟨ed, ec, eo⟩ = k at *
      have hk64 : k < 64 := by omega
      have hkI : (k : Int) < 64 := by omega
      obtain ⟨d0, d1, d2⟩ := hR.tri hk64
      have f0 := hR.frozen (k * 3)
      have f1 := hR.frozen (k * 3 + 1)
      have f2 := hR.frozen (k * 3 + 2)
      replace hR := hidden hR
      go_wp2_with fail
      go_region
      all_goals
        go_wp2
        go_ret
        exact hfin.out _ (hR.out.put hk64 ⟨ed, ec, eo⟩).drew (((Trd.of_below (S := (· = g)) hend.out (Nat.le_refl _)).trans (Trd.setCells (S := (· = g)) (b := g) rfl (enV ⟨ed, ec, eo⟩) (k * 3) _)).trans (Trd.drew _))
    · have hhit' : hitE l ⟨ed, ec, eo⟩ = false := by simpa using hhit
      rw [hhit']
      have c9 := hS.out.count
      by_cases h64 : 64 ≤ l.length
      · obtain ⟨q1, _, q3⟩ := adE_full ho hhit' h64
        have hfin := hidden (show ∀ W, Below w.heap.size w W → SchAt W g l → AddEAt A l g ⟨ed, ec, eo⟩ w (.returned (errAt (A 4))) W from fun W h1 h2 => ⟨by rw [q1]; rfl, by rw [q3]; exact h2, Trd.of_below h1 (Nat.le_refl _)⟩)
        have hq : ((l.length : Int) == 64) = true := by rw [beq_iff_eq]; omega
        have c4 := hE'.out _ hend.out
        clear q1 q3 hnx hhit hhit' hpl hE' ho
        go_wp2
        go_ret
        exact hfin.out _ hend.out hS.out
      · obtain ⟨q1, _, q3⟩ := adE_new ho hhit' (by omega)
        obtain ⟨T, hR, hTk⟩ := hS.out.raw
        have hfin := hidden (show ∀ W k, plE l ⟨ed, ec, eo⟩ = k → RawAt W g ((T.take (k + 1) ++ l.drop k ++ T.drop (k + 1 + (l.drop k).length)).set k ⟨ed, ec, eo⟩) ((l.length : Int) + 1) → Trd (· = g) w W → AddEAt A l g ⟨ed, ec, eo⟩ w (.returned .nilIface) W from fun W k hk h1 h2 => ⟨by rw [q1]; rfl, by
          have hs := hnx.out
          have hkl := hpl.out
          rw [hk] at hkl
          rw [q3, hk] at hs ⊢
          have hil := insE_len ⟨ed, ec, eo⟩ hkl
          refine RawAt.sch (by rw [hil]; exact h1) ?_ (by rw [hil]; omega) hs
          rw [hil]
          exact ins_take hR.len hTk hkl (by omega) _, h2⟩)
        have hq : ((l.length : Int) == 64) = false := by rw [beq_eq_false_iff_ne]; omega
        have hl63 : l.length < 64 := by omega
        have hrow := hidden (hS.out.row)
        have hkl := hpl.out
        clear q1 q3 hnx hTk hhit hhit' hpl hE' ho hS h64
        replace hfin := hidden (fun W => hfin.out W _ rfl)
        generalize plE l ⟨ed, ec, eo⟩ = k at *
        have hk64 : k < 64 := by omega
        have hkI : (k : Int) < 64 := by omega
        have hkI1 : (k : Int) + 1 ≤ 64 := by omega
        have hkI2 : (k : Int) ≤ (l.length : Int) := by omega
        have hk0 : (0 : Int) ≤ (k : Int) := by omega
        have hk1 : (0 : Int) ≤ (k : Int) + 1 := by omega
        have hw1 : IntKind.i64.wrap ((k : Int) + 1) = (k : Int) + 1 := Go.IntWalk.i64_in _ (by omega)
        have hkn : ((k : Int) + 1).toNat = k + 1 := by omega
        have hkc : ¬ 64 = k := by omega
        replace hR := hidden hR
        have hrow2 := hidden (show Row enV 3 w'.drew (.slice (some ⟨g, k * 3, none⟩) (l.length - k) (64 - k)) (l.drop k) by
          have h := row_drop (k := k) (m := l.length - k) (c := 64) (c' := 64 - k) enV_len (hrow.out.same (w' := w'.drew) enV_len (fun _ _ => rfl)) (by omega) (by omega) (by omega)
          rw [Nat.zero_add] at h
          exact h)
        obtain ⟨off, hif, hseg, hfit⟩ := move_to (l := l) hR.out.len hkl hl63 g (l.length : Int)
        have hR2 := hidden (hseg _ hR.out.drew)
        replace hfit := hidden (show off + (l.length - k) * 3 ≤ (T.flatMap enV ++ [Value.int .i64 (l.length : Int)]).length by rw [hR.out.flen]; omega)
        have hle2 := hidden (show l.length - k ≤ 63 - k by omega)
        clear hseg
        go_wp2_with fail
        go_region_held3 (fun W => W.cell? ⟨g, 192, none⟩ = some (.int .i64 (l.length : Int)))
          ((first | exact c9 | exact hR2.out.count | assumption))
          ((refine step_copyR (by rfl) _ _ _ _ (by rfl) 25 Tryd.underlying22 (by kernel_rfl) enV_len enV_one g off (63 - k) (63 - k) (some ⟨g, k * 3, none⟩) (l.length - k) (64 - k) (by rfl) (by rfl) _ _ (l.drop k) hR.out.drew.row hrow2.out hle2.out hfit.out ?_))
        have ht1 := hidden ((Trd.of_below (S := (· = g)) hend.out (Nat.le_refl _)).trans ((Trd.drew (S := (· = g)) w').trans (Trd.setCells (S := (· = g)) (b := g) rfl ((l.drop k).flatMap enV) off w'.drew)))
        have hself := hidden (show ∀ j, (w'.drew.setCells g off ((l.drop k).flatMap enV)).cell? ⟨w.heap.size, j, none⟩ = w'.cell? ⟨w.heap.size, j, none⟩ from fun j => by
          refine World.cell?_of_block (w := w') ?_
          have hlt := World.block_lt_of_cell? w' _ n0
          exact ((Trd.drew (S := (· = g)) w').trans (Trd.setCells (S := (· = g)) (b := g) rfl ((l.drop k).flatMap enV) off w'.drew)).block _ hlt (show ¬ w.heap.size = g by have := hgw.out; omega))
        rw [← hself.out] at n0 n1 n2
        clear hself hfit hle2 hrow2 hrow c9 hend hR hif
        generalize w'.drew.setCells g off ((l.drop k).flatMap enV) = wc at *
        generalize T.take (k + 1) ++ l.drop k ++ T.drop (k + 1 + (l.drop k).length) = T1 at *
        obtain ⟨d0, d1, d2⟩ := hR2.out.tri hk64
        have f0 := hR2.out.frozen (k * 3)
        have f1 := hR2.out.frozen (k * 3 + 1)
        have f2 := hR2.out.frozen (k * 3 + 2)
        go_wp2_with fail
        have hR3 := hidden ((hR2.out.put hk64 ⟨ed, ec, eo⟩).drew)
        replace ht1 := hidden (ht1.out.trans ((Trd.setCells (S := (· = g)) (b := g) rfl (enV ⟨ed, ec, eo⟩) (k * 3) wc).trans (Trd.drew _)))
        have hlw : IntKind.i64.wrap ((l.length : Int) + 1) = (l.length : Int) + 1 := Go.IntWalk.i64_in _ (by omega)
        go_region
        all_goals
          change Exit.then _ _ _ _ ((wc.setCells g (k * 3) (enV ⟨ed, ec, eo⟩)).drew)
          generalize (wc.setCells g (k * 3) (enV ⟨ed, ec, eo⟩)).drew = wd at *
          have c9 := hR3.out.count
          have f9 := hR3.out.frozen 192
          go_wp2
          go_ret
          exact hfin.out _ (hR3.out.cnt _) (ht1.out.trans (Trd.setCell (S := (· = g)) _ _ _ rfl))
  · obtain ⟨q1, q2, q3⟩ := adE_no (l := l) ho
    rw [q2, show errOf A 103 = errAt (A 2) from rfl] at hV
    unfold AddEAt
    rw [q1, q3]
    clear q1 q2 q3 ho
    go_enter Tryd.func11, Tryd.ntmps11
    go_wp2_with fail
    refine hV.out.mono ?_
    rintro r w1 ⟨rfl, hb⟩
    replace hlow := hidden (hlow.out.trans (hb.mono hlow.out.size))
    clear hb hV
    go_wp2
    go_ret
    exact ⟨rfl, hS.out _ hlow.out, Trd.of_below hlow.out (Nat.le_refl _)⟩
end Go.Proofs.YtfoiclgipnlfnaaDoor
