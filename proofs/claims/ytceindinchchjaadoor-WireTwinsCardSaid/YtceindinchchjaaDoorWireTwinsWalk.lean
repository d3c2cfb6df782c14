import Derived.Test.YtceindinchchjaaDoorWireCutsWalk
namespace Go.Proofs.YtceindinchchjaaDoor
open Go.RowKit

/-- A reader is as it was while another one reads on. -/
theorem Rdr.other {w w' : World} {B g p gx : Nat} {xs : List Int} {cs : Array Value} {fr : Nat × Nat} (h : Rdr w B g xs p none) (hx : w.heap[gx]? = some (.cells cs 50 fr)) (hne : gx ≠ g) (hk : w.grownBy w' (some gx)) : Rdr w' B g xs p none := by
  obtain ⟨hB, hp, bv, errv, hg, hown, he⟩ := h
  refine ⟨hB, hp, bv, errv, by rw [hk.block g (Array.getElem?_eq_some_iff.1 hg).1 (fun e => hne (Option.some.inj e).symm)]; exact hg, own_other hown hx (by decide) hk, he⟩
theorem Rdr.block {w : World} {B g p : Nat} {xs : List Int} {bad : Option Addr} (h : Rdr w B g xs p bad) : ∃ cs, w.heap[g]? = some (.cells cs 50 (0, 0)) := by
  obtain ⟨hB, hp, bv, errv, hg, _⟩ := h
  exact ⟨_, hg⟩

/-- the numbers one behind the other, of all of them. -/
theorem all_num (aE aS aR : Addr) (l : List Int) (i : Nat) (low high : Int) (h : i < l.length) (hr : ∀ n ∈ l, -9223372036854775808 ≤ n ∧ n ≤ 9223372036854775807) :
    numOf aE aS aR ((encs l).drop (encs (l.take i)).length) low high = if low ≤ l.getD i 0 ∧ l.getD i 0 ≤ high then .inl (l.getD i 0, (enc (zz (l.getD i 0)).toNat).length) else .inr aR := by
  have hx := hr _ (getD_mem l i h)
  rw [encs_split l i h, numOf_enc _ _ _ _ _ _ _ hx.1 hx.2]

/-- two readers of l's bytes, at their places. -/
def TwinRel (w : World) (Bx gx By gy : Nat) (l : List Int) (i j : Nat) (wr : World) : Prop :=
  Rdr wr Bx gx (encs l) (encs (l.take i)).length none ∧ Rdr wr By gy (encs l) (encs (l.take j)).length none ∧ Below w.heap.size w wr
def Twin1 (w : World) (Bx gx By gy : Nat) (l : List Int) (k : Nat) (i : Value) (wr : World) : Prop := ∃ j : Nat, i = .int .i64 (j : Int) ∧ j ≤ k ∧ TwinRel w Bx gx By gy l j 0 wr
def Twin2 (w : World) (Bx gx By gy : Nat) (l : List Int) (k : Nat) (i : Value) (wr : World) : Prop := ∃ j : Nat, i = .int .i64 (j : Int) ∧ j ≤ l.length ∧ TwinRel w Bx gx By gy l k j wr

/-- one number read by the first, by the second. -/
theorem twin_x {w wr : World} {Bx gx By gy i j : Nat} {l : List Int} {A : Nat → Addr} (h : TwinRel w Bx gx By gy l i j wr) (hi : i < l.length) (hr : ∀ n ∈ l, -9223372036854775808 ≤ n ∧ n ≤ 9223372036854775807) (hlen : (encs l).length ≤ 200)
    (hS : Sents w A) (hne : gx ≠ gy) (hB : w.heap.size ≤ Bx) (low high : Int) (hb : low ≤ l.getD i 0 ∧ l.getD i 0 ≤ high) :
    Calls Tryd.prog 14 #[.pointer (some ⟨gx, 0, none⟩), .int .i64 low, .int .i64 high] wr fun e w' => e = .returned (.int .i64 (l.getD i 0)) ∧ TwinRel w Bx gx By gy l (i + 1) j w' := by
  obtain ⟨h1, h2, h3⟩ := h
  refine (num_good Bx gx _ _ (encs l) low high (l.getD i 0) (A 0) (A 1) (A 2) wr h1 (by omega) (encs_byte l) (errs_of (hS.below h3 (Nat.le_refl _))) (by rw [all_num _ _ _ l i low high hi hr, if_pos hb])).mono ?_
  rintro e w' ⟨rfl, hR, hg⟩
  obtain ⟨cs, hc⟩ := h1.block
  refine ⟨rfl, by rw [encs_take_succ l i hi]; exact hR, h2.other hc hne hg, below_grown h3 hg h1.1 hB⟩
theorem TwinRel.swap {w wr : World} {Bx gx By gy i j : Nat} {l : List Int} (h : TwinRel w Bx gx By gy l i j wr) : TwinRel w By gy Bx gx l j i wr := ⟨h.2.1, h.1, h.2.2⟩
theorem TwinRel.drew {w wr : World} {Bx gx By gy i j m : Nat} {l : List Int} (h : TwinRel w Bx gx By gy l i j wr) : TwinRel w Bx gx By gy l i j (wr.drewN m) := ⟨h.1, h.2.1, below_drewN h.2.2⟩
theorem TwinRel.drew1 {w wr : World} {Bx gx By gy i j : Nat} {l : List Int} (h : TwinRel w Bx gx By gy l i j wr) : TwinRel w Bx gx By gy l i j wr.drew := h.drew (m := 1)
theorem TwinRel.cell {w wr : World} {Bx gx By gy i j k c bl ol m : Nat} {l : List Int} (h : TwinRel w Bx gx By gy l i j wr) (hr : Reads .i64 w (.slice (some ⟨bl, ol, none⟩) m c) l) (hk : k < m) : wr.cell? ⟨bl, ol + k, none⟩ = some (.int .i64 (l.getD k 0)) := by
  obtain ⟨b, o, e1, e2⟩ := (hr.below h.2.2 (Nat.le_refl _)).cell k hk
  simp only [Option.some.injEq, Addr.mk.injEq, and_true] at e1
  obtain ⟨rfl, rfl⟩ := e1
  exact e2

set_option maxHeartbeats 3200000 in
theorem walk_wireTwins (v : Value) (l : List Int) (cut : Int) (A : Nat → Addr) (w : World) (hr : Reads .i64 w v l) (hlr : ∀ x ∈ l, -9223372036854775808 ≤ x ∧ x ≤ 9223372036854775807)
    (hc0 : -9223372036854775808 ≤ cut) (hc1 : cut ≤ 9223372036854775807) (hS : Sents w A) :
    Calls Tryd.prog 7 #[v, .int .i64 cut] w fun e w' => e = .returned (.bool true) ∧ Below w.heap.size w w' := by
  have hr' := hidden hr
  obtain ⟨al, ll, cl, rfl, el, hlc, hlm, hln, hlx⟩ := hr
  subst el
  unfold maxLen at hlm
  clear hln hlx
  have hS' := hidden hS
  have hlr' := hidden hlr
  clear hS hlr
  by_cases h20 : 20 < l.length
  · have h20' : (20 : Int) < (l.length : Int) := by omega
    clear h20
    go_enter Tryd.func7, Tryd.ntmps7
    go_wp2_with fail
    refine (law_first _).mono ?_
    rintro e w1 ⟨rfl, hb⟩
    go_wp2
    go_ret
    exact ⟨rfl, hb⟩
  · have h20' : ¬ (20 : Int) < (l.length : Int) := by omega
    have hel := encs_len l hlr'.out
    have heb := hidden (encs_byte l)
    have hEl : (encs l).length ≤ 200 := by omega
    clear h20
    go_enter Tryd.func7, Tryd.ntmps7
    go_wp2_with fail
    refine (law_first _).mono ?_
    rintro e w1 ⟨rfl, hbw1⟩
    have hbw1' := hidden hbw1
    clear hbw1
    go_wp2_with fail
    refine (put_any _ _ [] l _ (Reads.nil _ _) (hr'.out.below hbw1'.out (Nat.le_refl _)) (by decide) (by omega) hlr'.out).mono ?_
    rintro e w2 ⟨v2, rfl, hown2, hbw2⟩
    rw [List.nil_append] at hown2
    have hbw2' := hidden (hbw1'.out.trans (hbw2.mono hbw1'.out.size))
    have hr2 := hidden (reads_of_own (k := .u8) hown2)
    obtain ⟨a2, c2, hv2⟩ := reads_slice hr2.out
    rw [hv2] at hr2
    rw [hv2]
    clear hv2 hown2 hbw2
    go_wp2_with fail
    refine (newReader_any _ (encs l) w2 hr2.out (by omega)).mono ?_
    rintro e w3 ⟨gx, rfl, hR, hb3⟩
    have hb3' := hidden (hbw2'.out.trans (hb3.mono hbw2'.out.size))
    have hRx := hidden hR
    have hr3 := hidden (hr2.out.below hb3 (Nat.le_refl _))
    clear hR hb3
    go_wp2_with fail
    refine (newReader_any _ (encs l) w3 hr3.out (by omega)).mono ?_
    rintro e w4 ⟨gy, rfl, hR, hb4⟩
    have hb4' := hidden (hb3'.out.trans (hb4.mono hb3'.out.size))
    have hT := hidden (show TwinRel w w2.heap.size gx w3.heap.size gy l 0 0 w4 from ⟨hRx.out.same (below_all hb4), hR, hb4'.out⟩)
    have hne : gx ≠ gy := by
      obtain ⟨cs, hc⟩ := hRx.out.block
      have := (Array.getElem?_eq_some_iff.1 hc).1
      have := hR.1
      omega
    have hne' := hidden hne
    have hBx := hidden hbw2'.out.size
    have hBy := hidden hb3'.out.size
    clear hR hb4 hne hr3 hr2 hRx
    go_wp2_with fail
    refine (number_any cut ((l.length : Int) + 1) w4 hc0 hc1 (by omega) (by omega)).mono ?_
    rintro e w5 ⟨rfl, rfl⟩
    obtain ⟨k, hk⟩ : ∃ k : Nat, cut % ((l.length : Int) + 1) = (k : Int) := ⟨(cut % ((l.length : Int) + 1)).toNat, by have := Int.emod_nonneg cut (show (l.length : Int) + 1 ≠ 0 by omega); omega⟩
    have hkE : k ≤ l.length := by have := Int.emod_lt_of_pos cut (show 0 < (l.length : Int) + 1 by omega); omega
    rw [hk]
    clear hk
    go_wp2_with fail
    go_loopw [10] (fun i wr => Twin1 w w2.heap.size gx w3.heap.size gy l k i wr) (fun i _ => k - (intOf i).toNat)
    case atStart => exact ⟨0, rfl, Nat.zero_le _, hT.out⟩
    case round =>
      obtain ⟨j, rfl, hj, hTj⟩ := hrel
      by_cases hlt : j < k
      · have hjl : j < l.length := by omega
        have hjl' : (j : Int) < (l.length : Int) := by omega
        obtain ⟨bl, ol, rfl, hcell⟩ := (hr'.out.below hTj.2.2 (Nat.le_refl _)).cell j hjl
        have hxr := hlr'.out _ (getD_mem l j hjl)
        have hstep := hidden (fun (wz : World) (hz : TwinRel w w2.heap.size gx w3.heap.size gy l j 0 wz) => twin_x hz hjl hlr'.out hEl hS'.out hne'.out hBx.out (-9223372036854775808) 9223372036854775807 hxr)
        have hcz := hidden (fun (i : Nat) (wz : World) (hz : TwinRel w w2.heap.size gx w3.heap.size gy l i 0 wz) => hz.cell hr'.out hjl)
        have hTj' := hidden hTj
        clear hTj hxr
        generalize l.getD j 0 = x at *
        go_wp2_with fail
        go_region_held3 (fun w' => w'.cell? ⟨bl, ol + j, none⟩ = some (.int .i64 x))
          ((first | exact hcell | exact hcz.out _ _ hTj'.out | exact hcz.out _ _ hTj'.out.drew1 | exact hcz.out _ _ (by assumption)))
          (first | (go_at_call 14; refine (hstep.out _ ?_).mono ?_; (first | exact hTj'.out | exact hTj'.out.drew1); rintro e w' ⟨rfl, hT5⟩))
        go_wp2
        go_roundw
        case rel => exact ⟨j + 1, by go_num, hlt, by first | exact hT5 | exact hT5.drew1⟩
        case measure => simp [intOf]; omega
      · obtain rfl : j = k := by omega
        have hlt' : ¬ (j : Int) < (j : Int) := by omega
        have hTj' := hidden hTj
        clear hTj hT
        go_wp2_with fail
        go_loopw [11] (fun i wr => Twin2 w w2.heap.size gx w3.heap.size gy l j i wr) (fun i _ => l.length - (intOf i).toNat)
        case atStart => exact ⟨0, rfl, Nat.zero_le _, hTj'.out⟩
        case round =>
          obtain ⟨q, rfl, hq, hTq⟩ := hrel
          clear hTj'
          by_cases hql : q < l.length
          · have hql' : (q : Int) < (l.length : Int) := by omega
            obtain ⟨bl, ol, rfl, hcell⟩ := (hr'.out.below hTq.2.2 (Nat.le_refl _)).cell q hql
            have hstep := hidden (fun (wz : World) (hz : TwinRel w w3.heap.size gy w2.heap.size gx l q j wz) => twin_x hz hql hlr'.out hEl hS'.out (Ne.symm hne'.out) hBy.out (l.getD q 0) (l.getD q 0) ⟨Int.le_refl _, Int.le_refl _⟩)
            have hcz := hidden (fun (i j : Nat) (wz : World) (hz : TwinRel w w3.heap.size gy w2.heap.size gx l i j wz) => hz.cell hr'.out hql)
            have hTq' := hidden hTq.swap
            clear hTq
            generalize l.getD q 0 = x at *
            go_wp2_with fail
            go_region_held3 (fun w' => w'.cell? ⟨bl, ol + q, none⟩ = some (.int .i64 x))
              ((first | exact hcell | exact hcz.out _ _ _ hTq'.out | exact hcz.out _ _ _ hTq'.out.drew1 | exact hcz.out _ _ _ (by assumption)))
              (first | (go_at_call 14; refine (hstep.out _ ?_).mono ?_; (first | exact hTq'.out | exact hTq'.out.drew1); rintro e w' ⟨rfl, hT5⟩))
            go_wp2
            go_roundw
            case rel => exact ⟨q + 1, by go_num, hql, by first | exact hT5.swap | exact hT5.drew1.swap⟩
            case measure => simp [intOf]; omega
          · obtain rfl : q = l.length := by omega
            have hql' : ¬ (l.length : Int) < (l.length : Int) := by omega
            have hTq' := hidden hTq
            clear hTq hql
            have hpl : (encs (l.take j)).length ≤ (encs l).length := hTq'.out.1.2.1
            have hRx := hidden hTq'.out.1
            have hRy := hidden (show Rdr wr w3.heap.size gy (encs l) (encs l).length none by have := hTq'.out.2.1; rw [List.take_length] at this; exact this)
            have hbq := hidden hTq'.out.2.2
            have hsum : ((((encs (l.take j)).length : Int) + (((encs l).length : Int) - ((encs (l.take j)).length : Int))) != ((encs l).length : Int)) = false := by rw [bne_eq_false_iff_eq]; omega
            have hz0 : ((((encs l).length : Int) - ((encs l).length : Int)) != 0) = false := by rw [bne_eq_false_iff_eq]; omega
            have hnumk := hidden (fun (h : j < l.length) => all_num (A 0) (A 1) (A 2) l j 0 1 h hlr'.out)
            have hE200 := hidden hEl
            have hpos : 0 ≤ ((encs l).length : Int) - ((encs (l.take j)).length : Int) := by omega
            have hEI : ((encs l).length : Int) ≤ 200 := by omega
            clear hel hTq' hpl
            generalize (encs (l.take j)).length = p at *
            generalize hEq : (encs l).length = E at *
            have hEq' := hidden hEq
            clear hEq
            go_wp2_with fail
            refine (at_any _ _ _ _ _ wr hRx.out).mono ?_
            rintro e w6 ⟨rfl, rfl⟩
            go_wp2_with fail
            refine (left_none _ _ _ _ wr hRx.out (by rw [hEq'.out]; have := hE200.out; omega)).mono ?_
            rintro e w6 ⟨rfl, m, rfl⟩
            rw [hEq'.out]
            have hRx6 := hidden (show Rdr (wr.drewN m) w2.heap.size gx (encs l) p none from hRx.out)
            have hRy6 := hidden (show Rdr (wr.drewN m) w3.heap.size gy (encs l) E none from hRy.out)
            have hb6 := hidden (below_drewN (m := m) hbq.out)
            clear hRx hRy
            go_wp2_with fail
            refine (left_none _ _ _ _ _ hRy6.out (by rw [hEq'.out]; have := hE200.out; omega)).mono ?_
            rintro e w6 ⟨rfl, m2, rfl⟩
            rw [hEq'.out]
            have hRx7 := hidden (show Rdr (wr.drewN (m + m2)) w2.heap.size gx (encs l) p none from hRx6.out)
            have hb7 := hidden (below_drewN (m := m + m2) hbq.out)
            clear hRx6 hRy6 hb6
            go_wp2_with fail
            refine (err_none _ _ _ _ _ hRx7.out).mono ?_
            rintro e w7 ⟨rfl, hw7⟩
            have hRx8 := hidden (show Rdr w7 w2.heap.size gx (encs l) p none by rw [← hw7]; exact hRx7.out)
            have hb8 := hidden (show Below w.heap.size w w7 by rw [← hw7]; exact hb7.out)
            clear hRx7 hb7 hw7
            by_cases hjl : j < l.length
            · have hjne : ((j : Int) == (l.length : Int)) = false := by rw [beq_eq_false_iff_ne]; omega
              have hjl' : (j : Int) < (l.length : Int) := by omega
              have hnk := hidden (hnumk.out hjl)
              obtain ⟨bl, ol, rfl, hc8⟩ := (hr'.out.below hb8.out (Nat.le_refl _)).cell j hjl
              have hlater := hidden (fun (wz : World) (hz : Below w.heap.size w wz) => show wz.cell? ⟨bl, ol + j, none⟩ = some (.int .i64 (l.getD j 0)) by
                obtain ⟨b, o, e1, e2⟩ := (hr'.out.below hz (Nat.le_refl _)).cell j hjl
                simp only [Option.some.injEq, Addr.mk.injEq, and_true] at e1
                obtain ⟨rfl, rfl⟩ := e1
                exact e2)
              generalize l.getD j 0 = x at *
              go_wp2_with fail
              refine (at_any _ _ _ _ _ w7 hRx8.out).mono ?_
              rintro e w9 ⟨rfl, rfl⟩
              by_cases hbit : 0 ≤ x ∧ x ≤ 1
              · go_wp2_with fail
                refine (bool_good _ _ _ _ _ x (A 0) (A 1) (A 2) w7 hRx8.out (by rw [hEq'.out]; have := hE200.out; omega) heb.out (errs_of (hS'.out.below hb8.out (Nat.le_refl _))) (by rw [hnk.out, if_pos hbit])).mono ?_
                rintro e w9 ⟨rfl, hR9, hg9⟩
                have hb9 := hidden (below_grown hb8.out hg9 hRx8.out.1 hBx.out)
                have hR9' := hidden hR9
                have hc9 := hlater.out w9 hb9.out
                clear hR9 hg9 hc8 hRx8 hb8
                have hx01 : x = 0 ∨ x = 1 := by omega
                clear hbit hnk
                rcases hx01 with rfl | rfl
                all_goals
                  go_wp2_with fail
                  refine (err_none _ _ _ _ _ hR9'.out).mono ?_
                  rintro e w10 ⟨rfl, hw10⟩
                  go_wp2
                  go_ret
                  exact ⟨rfl, by rw [← hw10]; exact hb9.out⟩
              · go_wp2_with fail
                refine (bool_bad _ _ _ _ (A 0) (A 1) (A 2) (A 2) w7 hRx8.out (by rw [hEq'.out]; have := hE200.out; omega) heb.out (errs_of (hS'.out.below hb8.out (Nat.le_refl _))) (by rw [hnk.out, if_neg hbit])).mono ?_
                rintro e w9 ⟨rfl, hR9, hg9⟩
                have hb9 := hidden (below_grown hb8.out hg9 hRx8.out.1 hBx.out)
                have hR9' := hidden hR9
                have hc9 := hlater.out w9 hb9.out
                have hx0 : (x == 0) = false := by rw [beq_eq_false_iff_ne]; omega
                have hx1 : (x == 1) = false := by rw [beq_eq_false_iff_ne]; omega
                clear hR9 hg9 hc8 hRx8 hb8 hbit hnk
                go_wp2_with fail
                refine (at_any _ _ _ _ _ w9 hR9'.out).mono ?_
                rintro e w10 ⟨rfl, rfl⟩
                go_wp2_with fail
                refine (err_some _ _ _ _ _ w9 hR9'.out).mono ?_
                rintro e w10 ⟨ga, rfl, hga, rfl⟩
                have hga' := hidden hga
                clear hga
                go_wp2_with fail
                refine (fault_placed _ _ _ (by decide)).mono ?_
                rintro e w11 ⟨rfl, hb11⟩
                have hb11' := hidden (hb9.out.trans (hb11.mono hb9.out.size))
                have hf := hidden (faultIs_at A 2 ga p w11 (hS'.out.below hb11'.out (Nat.le_refl _)) (by decide) (by
                  unfold AtIn
                  rw [hb11.block ga (Array.getElem?_eq_some_iff.1 hga'.out).1]; exact hga'.out))
                clear hb11
                go_wp2_with fail
                refine (same_any _ _ _ _ _ _ _ w11 hf.out).mono ?_
                rintro e w12 ⟨rfl, hb12⟩
                have hb12' := hidden (hb11'.out.trans (hb12.mono hb11'.out.size))
                clear hb12
                go_wp2
                go_ret
                exact ⟨by simp, hb12'.out⟩
            · have hjeq : ((j : Int) == (l.length : Int)) = true := by rw [beq_iff_eq]; omega
              clear hjl
              go_wp2
              go_ret
              exact ⟨rfl, hb8.out⟩
end Go.Proofs.YtceindinchchjaaDoor
