import Derived.Test.YtbjiiddlpfjipaaDoorAsset5
import Derived.Test.YtbjiiddlpfjipaaDoorAssetNew
import Derived.Test.YtbjiiddlpfjipaaDoorSameInts
import Derived.Test.YtbjiiddlpfjipaaDoorTake
import Derived.Test.YtbjiiddlpfjipaaDoorLaidOn
import Derived.Deep.DeepCutAuto
namespace Go.Proofs.YtbjiiddlpfjipaaDoor
open Go.RowKit
set_option linter.unusedVariables false

/-- the bounds of what may come in. -/
def AsBig (a : As) : Prop := (-9223372036854775808 ≤ a.i ∧ a.i ≤ 9223372036854775807) ∧ (-9223372036854775808 ≤ a.s ∧ a.s ≤ 9223372036854775807) ∧ (-9223372036854775808 ≤ a.c ∧ a.c ≤ 9223372036854775807) ∧ (-9223372036854775808 ≤ a.m ∧ a.m ≤ 9223372036854775807) ∧ (-9223372036854775808 ≤ a.e ∧ a.e ≤ 9223372036854775807)
def PlayRel (n g : Nat) (w0 : World) (hv i : Value) (w : World) : Prop :=
  ∃ (k : Nat) (t : List As), k ≤ n ∧ i = .int .i64 (k : Int) ∧ TabAt w g t ∧ Row asV 5 w hv (allA t) ∧ (∀ b, hv.ownBlock = some b → b ≠ g) ∧ Below w0.heap.size w0 w
theorem vC_code (a : As) : codeOk (vC a) := by
  unfold vC
  split
  · exact .inl rfl
  · exact .inr (by decide)
theorem addC_code (t : List As) (a : As) : codeOk (addC t a) := by
  unfold addC
  split
  · split
    · exact .inr (by decide)
    · exact .inl rfl
  · exact .inr (by decide)
abbrev FiveB (w0 : World) (b o : Nat) (a : As) (W : World) : Prop :=
  (W.cell? ⟨b, o, none⟩ = some (.int .i64 a.i) ∧ W.cell? ⟨b, o + 1, none⟩ = some (.int .i64 a.s) ∧ W.cell? ⟨b, o + 2, none⟩ = some (.int .i64 a.c) ∧ W.cell? ⟨b, o + 3, none⟩ = some (.int .i64 a.m) ∧ W.cell? ⟨b, o + 4, none⟩ = some (.int .i64 a.e)) ∧ Below w0.heap.size w0 W
theorem fiveB_next {w0 W W' : World} {b o : Nat} {a : As} (h : FiveB w0 b o a W) (hb : Below W.heap.size W W') : FiveB w0 b o a W' := ⟨five_below h.1 hb, h.2.trans (hb.mono h.2.size)⟩
theorem fiveB_drew {w0 W : World} {b o : Nat} {a : As} (h : FiveB w0 b o a W) : FiveB w0 b o a W.drew := ⟨h.1, h.2.drew⟩
theorem fiveB_low {w0 W : World} {b o : Nat} {a : As} (h : FiveB w0 b o a W) : Below w0.heap.size w0 W := h.2
theorem fiveB_trd {w0 W W' : World} {b o g : Nat} {a : As} (h : FiveB w0 b o a W) (hb : b < w0.heap.size) (hg : w0.heap.size ≤ g) (ht : Trd (· = g) W W') : FiveB w0 b o a W' := by
  obtain ⟨⟨h1, h2, h3, h4, h5⟩, h6⟩ := h
  have hne : ¬ b = g := by omega
  refine ⟨?_, h6.trans (ht.below (fun k hk => by omega) h6.size)⟩
  refine ⟨?_, ?_, ?_, ?_, ?_⟩ <;> (rw [World.cell?_of_block (w := W) (ht.block _ (World.block_lt_of_cell? W _ (by assumption)) hne)]; assumption)
abbrev TenB (w0 : World) (g b o : Nat) (a : As) (W : World) : Prop :=
  (W.cell? ⟨g, 0, none⟩ = some (.int .i64 a.i) ∧ W.cell? ⟨g, 1, none⟩ = some (.int .i64 a.s) ∧ W.cell? ⟨g, 2, none⟩ = some (.int .i64 a.c) ∧ W.cell? ⟨g, 3, none⟩ = some (.int .i64 a.m) ∧ W.cell? ⟨g, 4, none⟩ = some (.int .i64 a.e)) ∧
    (W.cell? ⟨b, o, none⟩ = some (.int .i64 a.i) ∧ W.cell? ⟨b, o + 1, none⟩ = some (.int .i64 a.s) ∧ W.cell? ⟨b, o + 2, none⟩ = some (.int .i64 a.c) ∧ W.cell? ⟨b, o + 3, none⟩ = some (.int .i64 a.m) ∧ W.cell? ⟨b, o + 4, none⟩ = some (.int .i64 a.e)) ∧ Below w0.heap.size w0 W
theorem tenB_next {w0 W W' : World} {g b o : Nat} {a : As} (h : TenB w0 g b o a W) (hb : Below W.heap.size W W') : TenB w0 g b o a W' := by
  obtain ⟨⟨h1, h2, h3, h4, h5⟩, h6, h7⟩ := h
  refine ⟨?_, five_below h6 hb, h7.trans (hb.mono h7.size)⟩
  refine ⟨?_, ?_, ?_, ?_, ?_⟩ <;> (rw [World.cell?_of_block (w := W) (hb.block _ (World.block_lt_of_cell? W _ (by assumption)))]; assumption)
theorem tenB_drew {w0 W : World} {g b o : Nat} {a : As} (h : TenB w0 g b o a W) : TenB w0 g b o a W.drew := ⟨h.1, h.2.1, h.2.2.drew⟩
theorem tenB_low {w0 W : World} {g b o : Nat} {a : As} (h : TenB w0 g b o a W) : Below w0.heap.size w0 W := h.2.2
theorem is_self (A : Nat → Addr) (k : Int) (W : World) (h : Sents W A) (hk : codeOk k) : Calls Tryd.prog 9 #[errOf A k, .int .i64 k] W fun e w' => e = .returned (.bool true) ∧ Below W.heap.size W w' :=
  (is_any A k k W h hk).mono fun e w' h => by
    obtain ⟨rfl, hb⟩ := h
    exact ⟨by rw [beq_self_eq_true], hb⟩
set_option maxRecDepth 100000 in
set_option maxHeartbeats 8000000 in
theorem walk_assetPlays (v : Value) (l : List As) (d s t : Int) (A : Nat → Addr) (w : World) (hr : Row asV 5 w v l) (hl : ∀ a ∈ l, AsBig a) (d0 : -9223372036854775808 ≤ d) (d1 : d ≤ 9223372036854775807) (s0 : -9223372036854775808 ≤ s) (s1 : s ≤ 9223372036854775807) (t0 : -9223372036854775808 ≤ t) (t1 : t ≤ 9223372036854775807) (hS : Sents w A) :
    Calls Tryd.prog 3 #[v, .int .i64 d, .int .i64 s, .int .i64 t] w fun r w' => r = .returned (.bool true) ∧ Below w.heap.size w w' := by
  obtain ⟨va, vc, rfl⟩ := row_slice hr
  by_cases h40 : (40 : Int) < (l.length : Int)
  · go_enter Tryd.func3, Tryd.ntmps3
    go_wp2_with fail
    refine (law10_first w).mono ?_
    rintro r w1 ⟨rfl, hb⟩
    replace hb := hidden hb
    go_wp2
    go_ret
    exact ⟨rfl, hb.out⟩
  · have h41 : l.length ≤ 40 := by omega
    have hI := hidden (fun k (hk : codeOk k) W (h : Below w.heap.size w W) => is_self A k W (hS.below h (Nat.le_refl _)) hk)
    have hE := hidden (fun W (h : Below w.heap.size w W) => (hS.on [2, 6] (by decide)).below h (Nat.le_refl _))
    have hz := hidden master_zero
    have hx := hidden (fun k hk W (h : Below w.heap.size w W) => rowA_at (hr.below asV_len h (Nat.le_refl _)) k hk)
    have hblk := hidden (fun b (h : va = some b) (h0 : 0 < l.length) => show b.block < w.heap.size by
      obtain ⟨b', o, e, c, _⟩ := rowA_at hr 0 h0
      obtain rfl := Option.some.inj (h.symm.trans e)
      exact World.block_lt_of_cell? w _ c)
    have hbig := hidden (fun k (hk : k < l.length) => hl _ (as_mem hk))
    clear hS hr hl
    go_enter Tryd.func3, Tryd.ntmps3
    go_wp2_with fail
    refine (law10_first w).mono ?_
    rintro r w1 ⟨rfl, hb⟩
    have hwg := hidden hb.size
    have hn := hidden (tabAt_new w1)
    have hb1 := hidden (hb.alloc hb.size (.cells tabF 28))
    clear hb
    generalize tabF = F at *
    have hzz := hz.out
    go_wp2_with fail
    go_loopw [11, 12] (fun hv i wr => PlayRel l.length w1.heap.size w hv i wr) (fun _ i _ => l.length - (intOf i).toNat)
    case atStart => exact ⟨0, tabZ, Nat.zero_le _, rfl, hn.out, by rw [allA_zero]; exact Row.nil _, (fun b h => by cases h), hb1.out⟩
    case round =>
      obtain ⟨k, T, hk, rfl, hT, hrow, hoff, hb⟩ := hrel
      clear hn hb1 hzz hz
      by_cases hlt : k < l.length
      · obtain ⟨b, o, rfl, q⟩ := hx.out k hlt wr hb
        have hbb := hidden (hblk.out _ rfl (by omega))
        have hAB := hidden (hbig.out k hlt)
        have hlI : (k : Int) < (l.length : Int) := by omega
        clear hx hblk hbig
        generalize l.getD k asZ = a at *
        have hR := hidden (refAddAs_any _ T a wr hT.tab hrow)
        have hs0 := hidden (show FiveB w b (o + k * 5) a wr from ⟨q, hb⟩)
        replace hT := hidden hT
        replace hoff := hidden hoff
        replace hb := hidden hb
        obtain ⟨q0, q1, q2, q3, q4⟩ := q
        clear hrow
        go_wp2_with fail
        refine hR.out.mono ?_
        rintro r w2 ⟨v', rfl, hrow, hor, hb2⟩
        replace hoff := hidden (show ∀ b, v'.ownBlock = some b → b ≠ w1.heap.size from fun b hb3 => by
          rcases hor with rfl | h
          · exact hoff.out b hb3
          · have := h b hb3; have := hT.out.lt; omega)
        replace hT := hidden (hT.out.below hb2)
        replace hs0 := hidden (fiveB_next hs0.out hb2)
        replace hb := hidden (hb.out.trans (hb2.mono hb.out.size))
        replace hrow := hidden hrow
        clear hb2 hor hR q0 q1 q2 q3 q4
        have hIv := hidden (fun W h => hI.out _ (vC_code a) W h)
        have hIa := hidden (fun W h => hI.out _ (addC_code T a) W h)
        have hVal := hidden (fun W (h : Below w.heap.size w W) => valid_any A a W ((hE.out W h).sub (by simp)))
        have hAdd := hidden (fun W (h : Below w.heap.size w W) hT => add_any10 A T w1.heap.size a W hT (hE.out W h))
        have hRV := hidden (fun W => refValid_any a W)
        have hLiv := hidden (fun W => live_any a t W hAB.out.2.2.2.2.1 hAB.out.2.2.2.2.2 t0 t1)
        replace hT := hidden hT.out.drew
        replace hrow := hidden (hrow.out.same (w' := w2.drew) asV_len (fun _ _ => rfl))
        clear hI hE hAB
        unfold AddAt at hAdd
        go_wp2_with fail
        generalize nextT T a = T' at *
        generalize addC T a = ca at *
        generalize vC a = cv at *
        (go_region_held3 (fun W => (W.cell? ⟨b, o + k * 5, none⟩ = some (.int .i64 a.i) ∧ W.cell? ⟨b, o + k * 5 + 1, none⟩ = some (.int .i64 a.s) ∧ W.cell? ⟨b, o + k * 5 + 2, none⟩ = some (.int .i64 a.c) ∧ W.cell? ⟨b, o + k * 5 + 3, none⟩ = some (.int .i64 a.m) ∧ W.cell? ⟨b, o + k * 5 + 4, none⟩ = some (.int .i64 a.e)) ∧ Below w.heap.size w W)
          ((first | exact fiveB_drew hs0.out | assumption | exact fiveB_next (by assumption) hb5 | exact fiveB_trd (by assumption) hbb.out hwg.out ht5))
          ((first
            | (go_at_call 10; (with_reducible refine (hVal.out _ (fiveB_low (by assumption))).mono ?_); rintro e w' ⟨rfl, hb5⟩; replace hT := hidden (hT.out.below hb5); replace hrow := hidden (hrow.out.below asV_len hb5 (Nat.le_refl _)))
            | (go_at_call 11; (with_reducible refine (hRV.out _).mono ?_); rintro e w' ⟨rfl, hb5⟩; replace hT := hidden (hT.out.below hb5); replace hrow := hidden (hrow.out.below asV_len hb5 (Nat.le_refl _)))
            | (go_at_call 9; (with_reducible refine (hIv.out _ (fiveB_low (by assumption))).mono ?_); rintro e w' ⟨rfl, hb5⟩; replace hT := hidden (hT.out.below hb5); replace hrow := hidden (hrow.out.below asV_len hb5 (Nat.le_refl _)))
            | (go_at_call 9; (with_reducible refine (hIa.out _ (fiveB_low (by assumption))).mono ?_); rintro e w' ⟨rfl, hb5⟩; replace hT := hidden (hT.out.below hb5); replace hrow := hidden (hrow.out.below asV_len hb5 (Nat.le_refl _)))
            | (go_at_call 12; (with_reducible refine (hAdd.out _ (fiveB_low (by assumption)) hT.out).mono ?_); rintro e w' ⟨rfl, hT5, ht5⟩; replace hT := hidden hT5; replace hrow := hidden (hrow.out.trd asV_len ht5 hoff.out); clear hT5)
            | (go_at_call 13; (with_reducible refine (hLiv.out _).mono ?_); rintro e w' ⟨rfl, hb5⟩; replace hT := hidden (hT.out.below hb5); replace hrow := hidden (hrow.out.below asV_len hb5 (Nat.le_refl _)))
            | (go_at_call 14; (with_reducible refine (refLive_any a t _).mono ?_); rintro e w' ⟨rfl, hb5⟩; replace hT := hidden (hT.out.below hb5); replace hrow := hidden (hrow.out.below asV_len hb5 (Nat.le_refl _)))
            | (go_at_call 15; (with_reducible refine (cash_any a _).mono ?_); rintro e w' ⟨rfl, hb5⟩; replace hT := hidden (hT.out.below hb5); replace hrow := hidden (hrow.out.below asV_len hb5 (Nat.le_refl _))))))
        rename_i hh
        have hend := hidden (fiveB_low hh)
        clear hh hs0 hVal hAdd hLiv hRV hIv hIa
        go_wp2
        go_roundw
        case rel => exact ⟨k + 1, T', hlt, by go_num, hT.out, hrow.out, hoff.out, hend.out⟩
        case measure => simp [intOf]; omega
      · obtain rfl : k = l.length := by omega
        clear hx hblk hbig hI hE hlt
        obtain ⟨ha, hc, rfl⟩ := row_slice hrow
        replace hrow := hidden hrow
        have h32 := allA_32 hT.tab
        have hfd := hidden (fun r (h : Found (allA T) d r) => hT.tab.found h)
        have hG := hidden (get_any T w1.heap.size d wr hT)
        have hL := hidden (fun W h => all_any T w1.heap.size W h)
        have hO := hidden (fun W h => of_any10 T w1.heap.size s W h)
        replace hT := hidden hT
        replace hb := hidden hb
        go_wp2_with fail
        refine (find_any10 _ _ d _ hrow.out).mono ?_
        rintro r w2 ⟨z, rfl, hf, rfl⟩
        have hf2 := hfd.out z hf
        clear hf hfd
        go_wp2_with fail
        refine hG.out.mono ?_
        rintro r w2 ⟨rfl, hb2⟩
        clear hG
        generalize hxa : gotA T d = x at *
        have hn2 := hidden (asAt_new w2 x)
        replace hT := hidden ((hT.out.below hb2).below (below_as w2 x))
        replace hrow := hidden ((hrow.out.below asV_len hb2 (Nat.le_refl _)).below asV_len (below_as w2 x) (Nat.le_refl _))
        replace hb := hidden ((hb.out.trans (hb2.mono hb.out.size)).trans ((below_as w2 x).mono (Nat.le_trans hb.out.size hb2.size)))
        clear hb2
        go_upto_region 17 with (fail)
        go_cut [17, 127] (fun u17 u wx => u17 = .bool (gotB T d) ∧ u = .bool false ∧ TabAt wx w1.heap.size T ∧ Row asV 5 wx (.slice ha (allA T).length hc) (allA T) ∧ Below w.heap.size w wx)
        case first =>
          have hs0 := hidden (show Below w.heap.size w _ from hb.out)
          generalize w2.alloc (asO x) = w3 at *
          replace hT := hidden hT.out.drew
          replace hrow := hidden (hrow.out.same (w' := w3.drew) asV_len (fun _ _ => rfl))
          clear hO
          rcases hf2 with ⟨rfl, hno⟩ | ⟨j, rfl, hj, h1, h2, hth, he⟩
          · have hgb := hidden (show gotB T d = false from decide_eq_false hno)
            rw [hgb.out]
            clear hno hxa hn2
            go_wp2_with fail
            refine wp_region_held_drew (S := (fun W => Below w.heap.size w W)) (by kernel_rfl) hs0.out.drew (fun hHeld => ?_)
            refine take_plain 0 106 (.bool false) rfl rfl (by kernel_rfl) (by kernel_rfl) (by kernel_rfl) (fun _ _ _ h => h) (by rfl) ?_ hHeld ?_
            · intro w hSw
              try dsimp only at hSw
              go_simp
            simp only [Act.put, List.setIfInBounds_toArray, List.set_cons_zero, List.set_cons_succ]
            refine take_plain 1 107 (.int .i64 (-1)) rfl rfl (by kernel_rfl) (by kernel_rfl) (by kernel_rfl) (fun _ _ _ h => h) (by rfl) ?_ hHeld ?_
            · intro w hSw
              try dsimp only at hSw
              go_simp
            simp only [Act.put, List.setIfInBounds_toArray, List.set_cons_zero, List.set_cons_succ]
            refine take_plain 2 108 (.bool false) rfl rfl (by kernel_rfl) (by kernel_rfl) (by kernel_rfl) (fun _ _ _ h => h) (by rfl) ?_ hHeld ?_
            · intro w hSw
              try dsimp only at hSw
              go_simp
            simp only [Act.put, List.setIfInBounds_toArray, List.set_cons_zero, List.set_cons_succ]
            refine take_plain 3 109 (.bool false) rfl rfl (by kernel_rfl) (by kernel_rfl) (by kernel_rfl) (fun _ _ _ h => h) (by rfl) ?_ hHeld ?_
            · intro w hSw
              try dsimp only at hSw
              go_simp
            simp only [Act.put, List.setIfInBounds_toArray, List.set_cons_zero, List.set_cons_succ]
            refine take_plain 4 110 (.bool false) rfl rfl (by kernel_rfl) (by kernel_rfl) (by kernel_rfl) (fun _ _ _ h => h) (by rfl) ?_ hHeld ?_
            · intro w hSw
              try dsimp only at hSw
              go_simp
            simp only [Act.put, List.setIfInBounds_toArray, List.set_cons_zero, List.set_cons_succ]
            refine take_plain 5 111 (.bool false) rfl rfl (by kernel_rfl) (by kernel_rfl) (by kernel_rfl) (fun _ _ _ h => h) (by rfl) ?_ hHeld ?_
            · intro w hSw
              try dsimp only at hSw
              go_simp
            simp only [Act.put, List.setIfInBounds_toArray, List.set_cons_zero, List.set_cons_succ]
            refine take_plain 6 112 (.bool false) rfl rfl (by kernel_rfl) (by kernel_rfl) (by kernel_rfl) (fun _ _ _ h => h) (by rfl) ?_ hHeld ?_
            · intro w hSw
              try dsimp only at hSw
              go_simp
            simp only [Act.put, List.setIfInBounds_toArray, List.set_cons_zero, List.set_cons_succ]
            refine take_struck 7 113 rfl rfl (by kernel_rfl) (by kernel_rfl) (by kernel_rfl) (fun _ _ _ h => h) (by rfl) hHeld ?_
            simp only [Act.put, List.setIfInBounds_toArray, List.set_cons_zero, List.set_cons_succ]
            refine take_struck 8 114 rfl rfl (by kernel_rfl) (by kernel_rfl) (by kernel_rfl) (fun _ _ _ h => h) (by rfl) hHeld ?_
            simp only [Act.put, List.setIfInBounds_toArray, List.set_cons_zero, List.set_cons_succ]
            refine take_struck 9 115 rfl rfl (by kernel_rfl) (by kernel_rfl) (by kernel_rfl) (fun _ _ _ h => h) (by rfl) hHeld ?_
            simp only [Act.put, List.setIfInBounds_toArray, List.set_cons_zero, List.set_cons_succ]
            refine take_struck 10 116 rfl rfl (by kernel_rfl) (by kernel_rfl) (by kernel_rfl) (fun _ _ _ h => h) (by rfl) hHeld ?_
            simp only [Act.put, List.setIfInBounds_toArray, List.set_cons_zero, List.set_cons_succ]
            refine take_struck 11 117 rfl rfl (by kernel_rfl) (by kernel_rfl) (by kernel_rfl) (fun _ _ _ h => h) (by rfl) hHeld ?_
            simp only [Act.put, List.setIfInBounds_toArray, List.set_cons_zero, List.set_cons_succ]
            refine take_struck 12 118 rfl rfl (by kernel_rfl) (by kernel_rfl) (by kernel_rfl) (fun _ _ _ h => h) (by rfl) hHeld ?_
            simp only [Act.put, List.setIfInBounds_toArray, List.set_cons_zero, List.set_cons_succ]
            refine take_struck 13 119 rfl rfl (by kernel_rfl) (by kernel_rfl) (by kernel_rfl) (fun _ _ _ h => h) (by rfl) hHeld ?_
            simp only [Act.put, List.setIfInBounds_toArray, List.set_cons_zero, List.set_cons_succ]
            refine take_plain 14 120 (.bool false) rfl rfl (by kernel_rfl) (by kernel_rfl) (by kernel_rfl) (fun _ _ _ h => h) (by rfl) ?_ hHeld ?_
            · intro w hSw
              try dsimp only at hSw
              go_simp
            simp only [Act.put, List.setIfInBounds_toArray, List.set_cons_zero, List.set_cons_succ]
            refine take_plain 15 121 (.bool false) rfl rfl (by kernel_rfl) (by kernel_rfl) (by kernel_rfl) (fun _ _ _ h => h) (by rfl) ?_ hHeld ?_
            · intro w hSw
              try dsimp only at hSw
              go_simp
            simp only [Act.put, List.setIfInBounds_toArray, List.set_cons_zero, List.set_cons_succ]
            refine take_plain 16 122 (.bool false) rfl rfl (by kernel_rfl) (by kernel_rfl) (by kernel_rfl) (fun _ _ _ h => h) (by rfl) ?_ hHeld ?_
            · intro w hSw
              try dsimp only at hSw
              go_simp
            simp only [Act.put, List.setIfInBounds_toArray, List.set_cons_zero, List.set_cons_succ]
            refine take_plain 18 124 (.slice ha (allA T).length hc) rfl rfl (by kernel_rfl) (by kernel_rfl) (by kernel_rfl) (fun _ _ _ h => h) (by rfl) ?_ hHeld ?_
            · intro w hSw
              try dsimp only at hSw
              go_simp
            simp only [Act.put, List.setIfInBounds_toArray, List.set_cons_zero, List.set_cons_succ]
            refine wpAnyH_ready (rs := [17]) (by kernel_rfl) (by simp) ?_
            refine AllReadyH.cons rfl (fun K hK => ?_) AllReadyH.nil
            go_simp
            go_at_call 20
            with_reducible refine (hL.out _ hT.out).mono ?_
            rintro r wL ⟨v3, rfl, hown, hb5⟩
            replace hT := hidden (hT.out.below hb5)
            replace hrow := hidden (hrow.out.below asV_len hb5 (Nat.le_refl _))
            have hr3 := hidden (hown.row asV_len)
            clear hown
            go_wp2_with fail
            refine hK.out _ _ ?_ (fun hHeld => ?_)
            · exact Below.trans hHeld (hb5.mono (Below.size hHeld))
            clear hK K
            refine wpAnyH_ready (rs := [19]) (by kernel_rfl) (by simp) ?_
            refine AllReadyH.cons rfl (fun K hK => ?_) AllReadyH.nil
            go_simp
            go_at_call 19
            with_reducible refine (sameAssets_any _ _ (allA T) _ hr3.out hrow.out).mono ?_
            rintro r wM ⟨rfl, hb5⟩
            replace hT := hidden (hT.out.below hb5)
            replace hrow := hidden (hrow.out.below asV_len hb5 (Nat.le_refl _))
            go_wp2_with fail
            refine hK.out _ _ ?_ (fun hHeld => ?_)
            · exact Below.trans hHeld (hb5.mono (Below.size hHeld))
            clear hK K
            refine take_plain 20 126 (.bool false) rfl rfl (by kernel_rfl) (by kernel_rfl) (by kernel_rfl) (fun _ _ _ h => h) (by rfl) ?_ hHeld ?_
            · intro w hSw
              try dsimp only at hSw
              go_simp
            simp only [Act.put, List.setIfInBounds_toArray, List.set_cons_zero, List.set_cons_succ]
            refine take_plain 21 127 (.bool false) rfl rfl (by kernel_rfl) (by kernel_rfl) (by kernel_rfl) (fun _ _ _ h => h) (by rfl) ?_ hHeld ?_
            · intro w hSw
              try dsimp only at hSw
              go_simp
            simp only [Act.put, List.setIfInBounds_toArray, List.set_cons_zero, List.set_cons_succ]
            refine wpAnyH_done (by kernel_rfl) ?_ _
            replace hb := hidden hHeld
            clear hHeld hs0
            go_wp2
            go_meet
            exact ⟨by rw [hgb.out], rfl, hT.out, hrow.out, hb.out⟩
          · have he2 : (allA T).getD j asZ = x := by rw [he, ← hxa]; unfold gotA; rw [if_pos ⟨h1, h2⟩]
            have hgb := hidden (show gotB T d = true from decide_eq_true ⟨h1, h2, hth⟩)
            rw [hgb.out]
            obtain ⟨bj, oj, rfl, qj⟩ := rowA_at hrow.out j hj
            rw [he2] at qj
            have hjI : (j : Int) < ((allA T).length : Int) := by omega
            replace hs0 := hidden (show TenB w w2.heap.size bj (oj + j * 5) x w3 from ⟨hn2.out.cells, qj, hs0.out⟩)
            clear he he2 hth h1 h2 hxa qj hn2
            go_wp2_with fail
            first | (go_region_held3 (fun W => (W.cell? ⟨w2.heap.size, 0, none⟩ = some (.int .i64 x.i) ∧ W.cell? ⟨w2.heap.size, 1, none⟩ = some (.int .i64 x.s) ∧ W.cell? ⟨w2.heap.size, 2, none⟩ = some (.int .i64 x.c) ∧ W.cell? ⟨w2.heap.size, 3, none⟩ = some (.int .i64 x.m) ∧ W.cell? ⟨w2.heap.size, 4, none⟩ = some (.int .i64 x.e)) ∧ (W.cell? ⟨bj, oj + j * 5, none⟩ = some (.int .i64 x.i) ∧ W.cell? ⟨bj, oj + j * 5 + 1, none⟩ = some (.int .i64 x.s) ∧ W.cell? ⟨bj, oj + j * 5 + 2, none⟩ = some (.int .i64 x.c) ∧ W.cell? ⟨bj, oj + j * 5 + 3, none⟩ = some (.int .i64 x.m) ∧ W.cell? ⟨bj, oj + j * 5 + 4, none⟩ = some (.int .i64 x.e)) ∧ Below w.heap.size w W)
              ((first | exact tenB_drew hs0.out | assumption | exact tenB_next (by assumption) hb5))
              ((first
                | (go_at_call 18; (with_reducible refine (sameAs_any x _).mono ?_); rintro e w' ⟨rfl, hb5⟩; replace hT := hidden (hT.out.below hb5); replace hrow := hidden (hrow.out.below asV_len hb5 (Nat.le_refl _)))
                | (go_at_call 20; (with_reducible refine (hL.out _ hT.out).mono ?_); rintro e w' ⟨v3, rfl, hown, hb5⟩; replace hT := hidden (hT.out.below hb5); replace hrow := hidden (hrow.out.below asV_len hb5 (Nat.le_refl _)); have hr3 := hidden (hown.row asV_len); clear hown)
                | (go_at_call 19; (with_reducible refine (sameAssets_any _ _ (allA T) _ hr3.out hrow.out).mono ?_); rintro e w' ⟨rfl, hb5⟩; replace hT := hidden (hT.out.below hb5); replace hrow := hidden (hrow.out.below asV_len hb5 (Nat.le_refl _)))))) | fail
            rename_i hh
            replace hb := hidden (tenB_low hh)
            clear hh hs0
            go_wp2
            go_meet
            exact ⟨by rw [hgb.out], rfl, hT.out, hrow.out, hb.out⟩
        case rest =>
          obtain ⟨rfl, rfl, hT4, hrow4, hb4⟩ := hcut
          clear hT hrow hb hL hxa hn2 hf2
          replace hT4 := hidden hT4
          replace hrow4 := hidden hrow4
          replace hb4 := hidden hb4
          generalize gotB T d = gb at *
          have hnx := hidden (fun k hk => ofA_next (allA T) s k hk)
          generalize allA T = L at *
          go_wp2_with fail
          go_loopw [18, 19] (fun u i wr => OfRel L s wc u i wr) (fun _ i _ => L.length - (RowKit.intOf i).toNat)
          case atStart => exact ⟨0, Nat.zero_le _, rfl, World.ownsRow_nil _ _ _ _, Below.refl _ _⟩
          case round =>
            obtain ⟨k, hk, rfl, hown, hb⟩ := hrel
            by_cases hlt : k < L.length
            · have hn := hidden (hnx.out k hlt)
              obtain ⟨b, o, rfl, c0, c1, c2, c3, c4⟩ := rowA_at (hrow4.out.below asV_len hb (Nat.le_refl _)) k hlt
              generalize L.getD k asZ = a at *
              have hlI : (k : Int) < (L.length : Int) := by omega
              clear c2 c3 c4
              by_cases hz : a.s = s
              · have e1 : ofA (L.take (k + 1)) s = ofA (L.take k) s ++ [a.i] := by rw [hn.out, if_pos hz]
                replace e1 := hidden e1
                have hne : (a.s == s) = true := by simpa using hz
                have hlk := hidden (show (ofA (L.take k) s).length ≤ 1099511627776 by have := ofA_le (L.take k) s; rw [List.length_take] at this; omega)
                have hBr := hidden hb.size
                unfold OwnInts at hown
                replace hown := hidden hown
                replace hb := hidden hb
                clear hz
                go_wp2_with (at_builtin; refine wpList_app1 rfl _ _ 44 rfl 3 Tryd.underlying44 infoInt rfl (by decide) wc.heap.size _ _ _ rfl hown.out _ rfl rfl hlk.out hBr.out ?_)
                intro v2 w5 hown2 hb2
                replace hown2 := hidden hown2
                replace hb2 := hidden (hb.out.trans hb2)
                go_wp2
                go_roundw
                case rel => exact ⟨k + 1, hlt, by go_num, by rw [e1.out]; unfold OwnInts; rw [List.length_append, List.map_append]; exact hown2.out, hb2.out⟩
                case measure => simp [RowKit.intOf]; omega
              · have e1 : ofA (L.take (k + 1)) s = ofA (L.take k) s := by rw [hn.out, if_neg hz, List.append_nil]
                replace e1 := hidden e1
                have hne : (a.s == s) = false := by simpa using hz
                replace hown := hidden hown
                replace hb := hidden hb
                clear hz
                go_wp2
                go_roundw
                case rel => exact ⟨k + 1, hlt, by go_num, by rw [e1.out]; exact hown.out, hb.out⟩
                case measure => simp [RowKit.intOf]; omega
            · obtain rfl : k = L.length := by omega
              rw [List.take_length] at hown
              have hr5 := reads_of_own (k := .i64) hown
              have hT5 := hidden (hT4.out.below hb)
              replace hb4 := hidden (hb4.out.trans (hb.mono hb4.out.size))
              have hle := hidden (ofA_le L s)
              clear hown hb hnx hrow4 hT4 hlt
              replace hr5 := hidden hr5
              go_wp2_with fail
              refine (hO.out _ hT5.out).mono ?_
              rintro r w6 ⟨v6, rfl, hown6, hb6⟩
              have hr6 := hidden (reads_of_own (k := .i64) hown6)
              replace hr5 := hidden (hr5.out.below hb6 (Nat.le_refl _))
              replace hb4 := hidden (hb4.out.trans (hb6.mono hb4.out.size))
              clear hown6 hb6 hO hT5
              go_wp2_with fail
              refine (sameInts_any _ _ _ _ _ hr6.out hr5.out (by have := hle.out; omega)).mono ?_
              rintro r w7 ⟨rfl, m, rfl⟩
              have hd := hidden (show decide (ofA L s = ofA L s) = true from decide_eq_true rfl)
              rw [hd.out]
              go_wp2
              go_ret
              exact ⟨rfl, below_drewN hb4.out⟩
end Go.Proofs.YtbjiiddlpfjipaaDoor
