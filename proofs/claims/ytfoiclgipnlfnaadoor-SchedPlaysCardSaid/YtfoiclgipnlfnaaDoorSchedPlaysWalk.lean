import Derived.Test.YtfoiclgipnlfnaaDoorSched6
import Derived.Test.YtfoiclgipnlfnaaDoorSchedLaw
import Derived.Test.YtfoiclgipnlfnaaDoorLaidOn
namespace Go.Proofs.YtfoiclgipnlfnaaDoor
open Go.RowKit
set_option linter.unusedVariables false

/-- the bounds of what may come in. -/
def EnBig (a : En) : Prop := (-9223372036854775808 ≤ a.d ∧ a.d ≤ 9223372036854775807) ∧ (-9223372036854775808 ≤ a.c ∧ a.c ≤ 9223372036854775807)
def PlayERel (n g : Nat) (w0 : World) (hv i : Value) (w : World) : Prop :=
  ∃ (k : Nat) (L : List En), k ≤ n ∧ i = .int .i64 (k : Int) ∧ SchAt w g L ∧ Row enV 3 w hv L ∧ (∀ b, hv.ownBlock = some b → b ≠ g) ∧ Below w0.heap.size w0 w
abbrev TriB (w0 : World) (b o : Nat) (a : En) (W : World) : Prop :=
  (W.cell? ⟨b, o, none⟩ = some (.int .i64 a.d) ∧ W.cell? ⟨b, o + 1, none⟩ = some (.int .i64 a.c) ∧ W.cell? ⟨b, o + 2, none⟩ = some (.bool a.o)) ∧ Below w0.heap.size w0 W
theorem triB_next {w0 W W' : World} {b o : Nat} {a : En} (h : TriB w0 b o a W) (hb : Below W.heap.size W W') : TriB w0 b o a W' := ⟨tri_below h.1 hb, h.2.trans (hb.mono h.2.size)⟩
theorem triB_drew {w0 W : World} {b o : Nat} {a : En} (h : TriB w0 b o a W) : TriB w0 b o a W.drew := ⟨h.1, h.2.drew⟩
theorem triB_low {w0 W : World} {b o : Nat} {a : En} (h : TriB w0 b o a W) : Below w0.heap.size w0 W := h.2
theorem triB_trd {w0 W W' : World} {b o g : Nat} {a : En} (h : TriB w0 b o a W) (hb : b < w0.heap.size) (hg : w0.heap.size ≤ g) (ht : Trd (· = g) W W') : TriB w0 b o a W' := by
  obtain ⟨⟨h1, h2, h3⟩, h6⟩ := h
  have hne : ¬ b = g := by omega
  refine ⟨?_, h6.trans (ht.below (fun k hk => by omega) h6.size)⟩
  refine ⟨?_, ?_, ?_⟩ <;> (rw [World.cell?_of_block (w := W) (ht.block _ (World.block_lt_of_cell? W _ (by assumption)) hne)]; assumption)
theorem isE_self (A : Nat → Addr) (k : Int) (W : World) (h : Sents W A) (hk : codeOk k) : Calls Tryd.prog 8 #[errOf A k, .int .i64 k] W fun e w' => e = .returned (.bool true) ∧ Below W.heap.size W w' :=
  (is_any A k k W h hk).mono fun e w' h => by
    obtain ⟨rfl, hb⟩ := h
    exact ⟨by rw [beq_self_eq_true], hb⟩
theorem en_mem {l : List En} {k : Nat} (hk : k < l.length) : l.getD k enZ ∈ l := by
  rw [List.getD_eq_getElem?_getD, List.getElem?_eq_getElem hk]
  exact List.getElem_mem hk
set_option maxRecDepth 100000 in
set_option maxHeartbeats 8000000 in
theorem walk_schedPlays (v : Value) (l : List En) (c t : Int) (A : Nat → Addr) (w : World) (hr : Row enV 3 w v l) (hl : ∀ a ∈ l, EnBig a) (c0 : -9223372036854775808 ≤ c) (c1 : c ≤ 9223372036854775807) (t0 : -9223372036854775808 ≤ t) (t1 : t ≤ 9223372036854775807) (hS : Sents w A) :
    Calls Tryd.prog 3 #[v, .int .i64 c, .int .i64 t] w fun r w' => r = .returned (.bool true) ∧ Below w.heap.size w w' := by
  obtain ⟨va, vc, rfl⟩ := row_slice hr
  have hF := hidden (law11_first A w (hS.on [2, 4] (by decide)))
  clear hl c0 c1 t0 t1
  by_cases h90 : (90 : Int) < (l.length : Int)
  · go_enter Tryd.func3, Tryd.ntmps3
    go_wp2_with fail
    refine hF.out.mono ?_
    rintro r w1 ⟨rfl, hb⟩
    replace hb := hidden hb
    go_wp2
    go_ret
    exact ⟨rfl, hb.out⟩
  · have h91 : l.length ≤ 90 := by omega
    have hI := hidden (fun k (hk : codeOk k) W (h : Below w.heap.size w W) => isE_self A k W (hS.below h (Nat.le_refl _)) hk)
    have hE := hidden (fun W (h : Below w.heap.size w W) => (hS.on [2, 4] (by decide)).below h (Nat.le_refl _))
    have hz := hidden sched_zero
    have hx := hidden (fun k hk W (h : Below w.heap.size w W) => rowE_at (hr.below enV_len h (Nat.le_refl _)) k hk)
    have hblk := hidden (fun b (h : va = some b) (h0 : 0 < l.length) => show b.block < w.heap.size by
      obtain ⟨b', o, e, cc, _⟩ := rowE_at hr 0 h0
      obtain rfl := Option.some.inj (h.symm.trans e)
      exact World.block_lt_of_cell? w _ cc)
    clear hS hr
    go_enter Tryd.func3, Tryd.ntmps3
    go_wp2_with fail
    refine hF.out.mono ?_
    rintro r w1 ⟨rfl, hb⟩
    have hwg := hidden hb.size
    have hn := hidden (schAt_new w1)
    have hb1 := hidden (hb.alloc hb.size (.cells schF 28))
    clear hb hF
    generalize schF = F at *
    have hzz := hz.out
    go_wp2_with fail
    go_loopw [9, 10] (fun hv i wr => PlayERel l.length w1.heap.size w hv i wr) (fun _ i _ => l.length - (intOf i).toNat)
    case atStart => exact ⟨0, [], Nat.zero_le _, rfl, hn.out, Row.nil _, (fun b h => by cases h), hb1.out⟩
    case round =>
      obtain ⟨k, L, hk, rfl, hT, hrow, hoff, hb⟩ := hrel
      clear hn hb1 hzz hz
      by_cases hlt : k < l.length
      · obtain ⟨b, o, rfl, q⟩ := hx.out k hlt wr hb
        have hbb := hidden (hblk.out _ rfl (by omega))
        have hlI : (k : Int) < (l.length : Int) := by omega
        clear hx hblk
        generalize l.getD k enZ = a at *
        have hR := hidden (refAddE_any _ L a wr hT.le hrow)
        have hs0 := hidden (show TriB w b (o + k * 3) a wr from ⟨q, hb⟩)
        replace hT := hidden hT
        replace hoff := hidden hoff
        replace hb := hidden hb
        obtain ⟨q0, q1, q2⟩ := q
        clear hrow
        go_wp2_with fail
        refine hR.out.mono ?_
        rintro r w2 ⟨v', rfl, hrow, hor, hb2⟩
        replace hoff := hidden (show ∀ b, v'.ownBlock = some b → b ≠ w1.heap.size from fun b hb3 => by
          rcases hor with rfl | h
          · exact hoff.out b hb3
          · have := h b hb3; have := hT.out.lt; omega)
        replace hT := hidden (hT.out.below hb2)
        replace hs0 := hidden (triB_next hs0.out hb2)
        replace hb := hidden (hb.out.trans (hb2.mono hb.out.size))
        replace hrow := hidden hrow
        clear hb2 hor hR q0 q1 q2
        have hIv := hidden (fun W h => hI.out _ (vE_code a) W h)
        have hIa := hidden (fun W h => hI.out _ (adC_code L a) W h)
        have hVal := hidden (fun W (h : Below w.heap.size w W) => validE_any A a W ((hE.out W h).sub (by simp)))
        have hAdd := hidden (fun W (h : Below w.heap.size w W) hT => add_anyE A L w1.heap.size a W hT (hE.out W h))
        have hRV := hidden (fun W => refValidE_any a W)
        replace hT := hidden hT.out.drew
        replace hrow := hidden (hrow.out.same (w' := w2.drew) enV_len (fun _ _ => rfl))
        clear hI hE
        unfold AddEAt at hAdd
        go_wp2_with fail
        generalize nextE L a = L' at *
        generalize adC L a = ca at *
        generalize vE a = cv at *
        (go_region_held3 (fun W => (W.cell? ⟨b, o + k * 3, none⟩ = some (.int .i64 a.d) ∧ W.cell? ⟨b, o + k * 3 + 1, none⟩ = some (.int .i64 a.c) ∧ W.cell? ⟨b, o + k * 3 + 2, none⟩ = some (.bool a.o)) ∧ Below w.heap.size w W)
          ((first | exact triB_drew hs0.out | assumption | exact triB_next (by assumption) hb5 | exact triB_trd (by assumption) hbb.out hwg.out ht5))
          ((first
            | (go_at_call 9; (with_reducible refine (hVal.out _ (triB_low (by assumption))).mono ?_); rintro e w' ⟨rfl, hb5⟩; replace hT := hidden (hT.out.below hb5); replace hrow := hidden (hrow.out.below enV_len hb5 (Nat.le_refl _)))
            | (go_at_call 10; (with_reducible refine (hRV.out _).mono ?_); rintro e w' ⟨rfl, hb5⟩; replace hT := hidden (hT.out.below hb5); replace hrow := hidden (hrow.out.below enV_len hb5 (Nat.le_refl _)))
            | (go_at_call 8; (with_reducible refine (hIv.out _ (triB_low (by assumption))).mono ?_); rintro e w' ⟨rfl, hb5⟩; replace hT := hidden (hT.out.below hb5); replace hrow := hidden (hrow.out.below enV_len hb5 (Nat.le_refl _)))
            | (go_at_call 8; (with_reducible refine (hIa.out _ (triB_low (by assumption))).mono ?_); rintro e w' ⟨rfl, hb5⟩; replace hT := hidden (hT.out.below hb5); replace hrow := hidden (hrow.out.below enV_len hb5 (Nat.le_refl _)))
            | (go_at_call 11; (with_reducible refine (hAdd.out _ (triB_low (by assumption)) hT.out).mono ?_); rintro e w' ⟨rfl, hT5, ht5⟩; replace hT := hidden hT5; replace hrow := hidden (hrow.out.trd enV_len ht5 hoff.out); clear hT5))))
        rename_i hh
        have hend := hidden (triB_low hh)
        clear hh hs0 hVal hAdd hRV hIv hIa
        go_wp2
        go_roundw
        case rel => exact ⟨k + 1, L', hlt, by go_num, hT.out, hrow.out, hoff.out, hend.out⟩
        case measure => simp [intOf]; omega
      · obtain rfl : k = l.length := by omega
        clear hx hblk hI hE hlt hoff
        obtain ⟨ha, hc, rfl⟩ := row_slice hrow
        have hNx := hidden (next_anyE L w1.heap.size c t wr hT)
        have hRN := hidden (fun W h => refNx_any (.slice ha L.length hc) L c t W h)
        have hAll := hidden (fun W h => all_anyE L w1.heap.size W h)
        have hOn := hidden (fun W h => on_anyE L w1.heap.size c t W h)
        have hRO := hidden (fun W h => refOn_any (.slice ha L.length hc) L c t W h)
        replace hT := hidden hT
        replace hb := hidden hb
        replace hrow := hidden hrow
        unfold nxV at hNx hRN
        generalize onE L c t = on at *
        generalize (nxE L c t on).getD 0 = z at *
        generalize (nxE L c t on).isSome = y at *
        go_wp2_with fail
        refine hNx.out.mono ?_
        rintro r w2 ⟨rfl, hb2⟩
        replace hT := hidden (hT.out.below hb2)
        replace hrow := hidden (hrow.out.below enV_len hb2 (Nat.le_refl _))
        replace hb := hidden (hb.out.trans (hb2.mono hb.out.size))
        clear hb2 hNx
        go_wp2_with fail
        refine (hRN.out _ hrow.out).mono ?_
        rintro r w3 ⟨rfl, rfl⟩
        clear hRN
        go_wp2_with fail
        refine (hAll.out _ hT.out).mono ?_
        rintro r w3 ⟨v3, rfl, hown3, hb3⟩
        obtain ⟨a3, c3, rfl⟩ := row_slice (hown3.row enV_len)
        have hr3 := hidden (hown3.row enV_len)
        replace hT := hidden (hT.out.below hb3)
        replace hrow := hidden (hrow.out.below enV_len hb3 (Nat.le_refl _))
        replace hb := hidden (hb.out.trans (hb3.mono hb.out.size))
        clear hown3 hb3 hAll
        go_wp2_with fail
        refine (sameEntrys_any _ _ L _ hr3.out hrow.out).mono ?_
        rintro r w4 ⟨rfl, hb4⟩
        replace hT := hidden (hT.out.below hb4)
        replace hrow := hidden (hrow.out.below enV_len hb4 (Nat.le_refl _))
        replace hb := hidden (hb.out.trans (hb4.mono hb.out.size))
        clear hb4 hr3
        go_wp2_with fail
        refine (hOn.out _ hT.out).mono ?_
        rintro r w5 ⟨rfl, hb5⟩
        replace hrow := hidden (hrow.out.below enV_len hb5 (Nat.le_refl _))
        replace hb := hidden (hb.out.trans (hb5.mono hb.out.size))
        clear hb5 hOn hT
        go_wp2_with fail
        refine (hRO.out _ hrow.out).mono ?_
        rintro r w6 ⟨rfl, rfl⟩
        clear hRO hrow
        go_wp2
        go_ret
        exact ⟨rfl, hb.out⟩
end Go.Proofs.YtfoiclgipnlfnaaDoor
