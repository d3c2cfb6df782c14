import Derived.Test.YtcjjjoodnddoeaaDoorRootLaw
namespace Go.Proofs.YtcjjjoodnddoeaaDoor
open Go.RowKit
set_option linter.unusedVariables false

/-- a root in block g, and that all is as it was in wz. -/
abbrev S2 (wz : World) (g : Nat) (e : Int) (u : Value) (w' : World) : Prop := w'.cell? ⟨g, 0, none⟩ = some (.int .i64 e) ∧ w'.cell? ⟨g, 1, none⟩ = some u ∧ Below wz.heap.size wz w'
theorem S2.next {wz w' w'' : World} {g : Nat} {e : Int} {u : Value} (h : S2 wz g e u w') (hb : Below w'.heap.size w' w'') : S2 wz g e u w'' := by
  obtain ⟨h1, h2, h3⟩ := h
  have hk : w''.heap[g]? = w'.heap[g]? := hb.block _ (World.block_lt_of_cell? w' _ h1)
  exact ⟨by rw [World.cell?_of_block (w := w') hk]; exact h1, by rw [World.cell?_of_block (w := w') hk]; exact h2, h3.trans (hb.mono h3.size)⟩
theorem S2.drew {wz w' : World} {g : Nat} {e : Int} {u : Value} (h : S2 wz g e u w') : S2 wz g e u w'.drew := ⟨h.1, h.2.1, h.2.2.drew⟩
theorem S2.low {wz w' : World} {g : Nat} {e : Int} {u : Value} (h : S2 wz g e u w') : Below wz.heap.size wz w' := h.2.2
theorem s2_new {w : World} {e : Int} {u : Value} : S2 w w.heap.size e u (w.alloc (rtO e u)) := by
  have h1 := heap_alloc_new w (rtO e u)
  exact ⟨by rw [cell_of_row _ _ _ _ _ _ h1]; rfl, by rw [cell_of_row _ _ _ _ _ _ h1]; rfl, (Below.refl _ _).alloc (Nat.le_refl _) _⟩
theorem S2.at {w w' : World} {g : Nat} {e : Int} {u : Value} (h : S2 w g e u w') : S2 w' g e u w' := ⟨h.1, h.2.1, Below.refl _ _⟩

theorem same_yes (e : Int) (u v : Value) (xs : List Int) (w : World) (h : Reads .i64 w u xs) (h2 : Reads .i64 w v xs) (hx : xs.length ≤ 1000000) :
    Calls Tryd.prog 14 #[.agg #[.int .i64 e, u], .agg #[.int .i64 e, v]] w fun r w' => r = .returned (.bool true) ∧ Below w.heap.size w w' := by
  have := same_root e e u v xs xs w h h2 hx
  simpa using this
def badC (l : List Int) (k : Nat) (b0 : Int) : Int := if rtBad (l.take k) = true then 103 else b0
theorem badC_end {l : List Int} {e : Int} (h1 : 1 ≤ e) (h2 : e ≤ 1099511627776) : badC l l.length (if 40 < l.length then 105 else 0) = rtC e l := by
  rw [badC, List.take_length, rtC, if_neg (show ¬ (e < 1 ∨ 1099511627776 < e) by omega)]
theorem badC_step0 {l : List Int} {k : Nat} {b0 : Int} (h : k < l.length) (hx : 0 ≤ l.getD k 0 ∧ l.getD k 0 ≤ 8192) : badC l (k + 1) b0 = badC l k b0 := by
  rw [badC, badC, rtBad_snoc h, show (decide (l.getD k 0 < 0) || decide (8192 < l.getD k 0)) = false by rw [decide_eq_false (by omega), decide_eq_false (by omega)]; rfl, Bool.or_false]
theorem badC_step1 {l : List Int} {k : Nat} {b0 : Int} (h : k < l.length) (hx : l.getD k 0 < 0 ∨ 8192 < l.getD k 0) : badC l (k + 1) b0 = 103 := by
  rw [badC, rtBad_snoc h, show (decide (l.getD k 0 < 0) || decide (8192 < l.getD k 0)) = true by simpa using hx, Bool.or_true, if_pos rfl]
def BadRel (l : List Int) (b0 : Int) (w0 : World) (b i : Value) (w : World) : Prop := ∃ k : Nat, k ≤ l.length ∧ i = .int .i64 (k : Int) ∧ b = .int .i64 (badC l k b0) ∧ w0 = w
set_option maxRecDepth 100000 in
set_option maxHeartbeats 1600000 in
theorem walk_rootBytes (e : Int) (v : Value) (l : List Int) (cut : Int) (A : Nat → Addr) (w : World) (he : -9223372036854775808 ≤ e) (he2 : e ≤ 9223372036854775807) (hr : Reads .i64 w v l) (hl : ∀ x ∈ l, -9223372036854775808 ≤ x ∧ x ≤ 9223372036854775807) (hc : -9223372036854775808 ≤ cut) (hc2 : cut ≤ 9223372036854775807) (hS : Sents w A) :
    Calls Tryd.prog 3 #[.int .i64 e, v, .int .i64 cut] w fun e w' => e = .returned (.bool true) ∧ Below w.heap.size w w' := by
  have hF := hidden (law6_first A w (hS.on _ (by decide)))
  have hE := hidden (fun W (h : Below w.heap.size w W) => (hS.on [2, 4] (by decide)).below h (Nat.le_refl _))
  have hI := hidden (fun c (hc : codeOk c) d W (h : Below w.heap.size w W) => is_any A c d W (hS.below h (Nat.le_refl _)) hc)
  have hN := hidden (fun W => number_any cut 128 W hc hc2 (by decide) (by decide))
  obtain ⟨N, hN1⟩ : ∃ N : Nat, cut % 128 = (N : Int) := ⟨(cut % 128).toNat, by omega⟩
  have hN2 : N < 128 := by omega
  rw [hN1] at hN
  obtain ⟨va, vc, rfl⟩ := reads_slice hr
  replace hr := hidden hr
  clear hS hl hc hc2 hN1
  by_cases h60 : (60 : Int) < (l.length : Int)
  · go_enter Tryd.func3, Tryd.ntmps3
    go_wp2_with fail
    refine hF.out.mono ?_
    rintro r w1 ⟨rfl, hw⟩
    replace hw := hidden hw
    go_wp2
    go_ret
    exact ⟨rfl, hw.out⟩
  · have hs0 := hidden (fun k b0 => @badC_step0 l k b0)
    have hs1 := hidden (fun k b0 => @badC_step1 l k b0)
    go_enter Tryd.func3, Tryd.ntmps3
    go_wp2_with fail
    refine hF.out.mono ?_
    rintro r w1 ⟨rfl, hw⟩
    replace hw := hidden hw
    clear hF
    go_upto_if 33 with (fail)
    go_cut [8] (fun s8 wx => s8 = .int .i64 (if 40 < l.length then 105 else 0) ∧ w1 = wx)
    case first =>
      by_cases h40 : (40 : Int) < (l.length : Int)
      · have h41 : 40 < l.length := by omega
        go_wp2
        go_meet
        exact ⟨by rw [if_pos h41], rfl⟩
      · have h41 : ¬ 40 < l.length := by omega
        go_wp2
        go_meet
        exact ⟨by rw [if_neg h41], rfl⟩
    case rest =>
      obtain ⟨rfl, rfl⟩ := hcut
      have hb0 := hidden (fun h1 h2 => @badC_end l e h1 h2)
      generalize (if 40 < l.length then (105 : Int) else 0) = b0 at *
      go_wp2_with fail
      go_loopw [8, 9] (fun b i wr => BadRel l b0 w1 b i wr) (fun _ i _ => l.length - (RowKit.intOf i).toNat)
      case atStart => exact ⟨0, Nat.zero_le _, rfl, rfl, rfl⟩
      case round =>
        obtain ⟨k, hk, rfl, rfl, rfl⟩ := hrel
        by_cases hlt : k < l.length
        · obtain ⟨b, o, rfl, c0⟩ := (hr.out.below hw.out (Nat.le_refl _)).cell k hlt
          have hki : (k : Int) < (l.length : Int) := by omega
          have e0 := hidden (hs0.out k b0 hlt)
          have e1 := hidden (hs1.out k b0 hlt)
          generalize l.getD k 0 = x at *
          by_cases x0 : x < 0
          · have e2 := hidden (e1.out (.inl x0))
            go_wp2_with fail
            go_roundw
            case rel => exact ⟨k + 1, hlt, by go_num, by rw [e2.out], rfl⟩
            case measure => simp [RowKit.intOf]; omega
          · by_cases x1 : 8192 < x
            · have e2 := hidden (e1.out (.inr x1))
              go_wp2_with fail
              go_roundw
              case rel => exact ⟨k + 1, hlt, by go_num, by rw [e2.out], rfl⟩
              case measure => simp [RowKit.intOf]; omega
            · have e2 := hidden (e0.out (by omega))
              go_wp2_with fail
              go_roundw
              case rel => exact ⟨k + 1, hlt, by go_num, by rw [e2.out], rfl⟩
              case measure => simp [RowKit.intOf]; omega
        · obtain rfl : k = l.length := by omega
          clear hs0 hs1
          have hM := hidden (made_any e _ l w1 (hr.out.below hw.out (Nat.le_refl _)) (by omega))
          have hcode := hidden (show codeOk (rtC e l) by rcases rtC_code e l with h | h | h <;> rw [h] <;> (unfold codeOk; decide))
          by_cases hz : rtC e l = 0
          · have hok := rtC_ok.1 hz
            have e0 := hok.e0
            have e1 := hok.e1
            have hbad := hidden (hb0.out e0 e1)
            rw [hz] at hbad
            clear hb0
            have hd := hbad.out
            rw [hd]
            have hI0 := hidden (hI.out 0 (.inl rfl) 0)
            have h00 : ((0 : Int) == 0) = true := rfl
            have he0 : errOf A (rtC e l) = .nilIface := by rw [hz]; rfl
            have hsec := hidden (rtB_ok hok)
            have hro := hidden (rootOf_rtB hok)
            have hl60 : l.length ≤ 60 := by omega
            clear hd hbad hcode hI hok
            go_wp2_with fail
            with_reducible refine hM.out.mono ?_
            rintro r w2 ⟨u, rfl, hu, hfu, hb2⟩
            have hB := hidden (rtBytes_any A e u l w2 hu (hE.out _ (hw.out.trans (hb2.mono hw.out.size))))
            have hw2 := hidden (hw.out.trans (hb2.mono hw.out.size))
            clear hu hfu hb2 hM
            go_wp2_with fail
            with_reducible refine hB.out.mono ?_
            rintro r w3 ⟨hb3, v3, rfl, hv3⟩
            rcases hv3 with ⟨_, g, rfl, hg3, hB3⟩ | ⟨hne, _⟩
            · have hw3 := hidden (hw2.out.trans (hb3.mono hw2.out.size))
              have hI3 := hidden (hI0.out w3 hw3.out)
              rw [he0]
              replace hB3 := hidden hB3
              rw [h00, errOf_fine] at hI3
              clear hb3 hB hg3 he0 h00
              go_wp2_with fail
              with_reducible refine hI3.out.mono ?_
              rintro r w4 ⟨rfl, hb4⟩
              have hw4 := hidden (hw3.out.trans (hb4.mono hw3.out.size))
              have hB4 := hidden (hB3.out.block (hb4.block _ hB3.out.lt))
              have hRd := hidden (rtRead_any A _ _ w4 (hB4.out.reads hsec.out.1 (by decide)) (hE.out _ hw4.out) hsec.out.2)
              clear hb4 hI3 hB3 hw3 hw2
              go_wp2_with fail
              with_reducible refine hRd.out.mono ?_
              rintro r w5 ⟨hb5, hv5⟩
              rw [hro.out] at hv5
              rcases hv5 with ⟨e5, l5, u5, h5, rfl, hu5, _⟩ | ⟨h5, _⟩
              · obtain ⟨rfl, rfl⟩ : e5 = e ∧ l5 = l := by simpa [eq_comm] using h5
                obtain ⟨ua, uc, rfl⟩ := reads_slice hu5
                have hs6 := hidden (s2_new (w := w5) (e := e5) (u := .slice ua l5.length uc))
                have hw6 := hidden ((hw4.out.trans (hb5.mono hw4.out.size)).trans (hs6.out.low.mono (hw4.out.trans (hb5.mono hw4.out.size)).size))
                have hB6 := hidden ((hB4.out.block (hb5.block _ hB4.out.lt)).block (hs6.out.low.block _ (hB4.out.block (hb5.block _ hB4.out.lt)).lt))
                have hu6 := hidden (hu5.below hs6.out.low (Nat.le_refl _))
                have h6 := hidden hs6.out.at
                clear hb5 hu5 hs6 hB4 hw4 hRd h5
                obtain ⟨i0, hi, hz0, hz1, hz2⟩ := info_parts infoU8
                go_wp2_with (first | (at_make; refine wpList_make_full _ rfl _ _ 24 rfl (w5.alloc (rtO e5 (.slice ua l5.length uc))).heap.size 5 i0 (.int .u8 0) 1 Tryd.underlying24 hi hz0 hz1 .i64 .i64 128 128 128 rfl rfl rfl rfl (by rw [hz2]; decide) (by unfold maxLen; decide) (Nat.le_refl _) ?_; intro w7 hown hgrow; have hst := hidden (byteAt_new hgrow hown); clear hgrow hown))
                clear hi hz0 hz1 hz2 i0
                replace h6 := hidden (h6.out.next hst.out.2)
                replace hu6 := hidden (hu6.out.below hst.out.2 (Nat.le_refl _))
                replace hB6 := hidden (hB6.out.block (hst.out.2.block _ hB6.out.lt))
                have hw7 := hidden (hw6.out.trans (hst.out.2.mono hw6.out.size))
                have hst1 := hst.out.1
                rw [show (w5.alloc (rtO e5 (.slice ua l5.length uc))).heap.size = w5.heap.size + 1 by simp] at hst1
                replace hst1 := hidden hst1
                clear hst
                generalize w5.heap.size = z5 at *
                generalize (w5.alloc (rtO e5 (.slice ua l5.length uc))) = w6 at *
                have hRd := hidden (rtRead_any A _ _ w7 (hst1.out.reads (n := 128) (by simp) (by decide)) (hE.out _ hw7.out) (fun x hx => by rw [(List.mem_replicate.1 hx).2]; decide))
                clear hw6
                with_reducible refine hRd.out.mono ?_
                rintro r w8 ⟨hb8, hv8⟩
                rcases hv8 with ⟨_, _, _, h8, _⟩ | ⟨_, rfl⟩
                · exact absurd (h8.symm.trans rootOf_zs) (by simp)
                · have hB8 := hidden (hB6.out.block (hb8.block _ hB6.out.lt))
                  have h8 := hidden (h6.out.next hb8)
                  have hw8 := hidden (hw7.out.trans (hb8.mono hw7.out.size))
                  have hu8 := hidden (hu6.out.below hb8 (Nat.le_refl _))
                  clear hb8 hB6 h6 hw7 hu6 hst1 hRd
                  have ha9 := hidden ((Below.refl w8.heap.size w8).alloc (Nat.le_refl _) (rtO 0 (.slice none 0 0)))
                  have hB9 := hidden (hB8.out.block (ha9.out.block _ hB8.out.lt))
                  have h9 := hidden (h8.out.next ha9.out)
                  have hw9 := hidden (hw8.out.trans (ha9.out.mono hw8.out.size))
                  have hu9 := hidden (hu8.out.below ha9.out (Nat.le_refl _))
                  have hRd := hidden (rtRead_any A _ _ _ (reads_take (m := N) (hB9.out.reads hsec.out.1 (by decide)) (by omega)) (hE.out _ hw9.out) (fun x hx => hsec.out.2 x (List.mem_of_mem_take hx)))
                  have hnone := hidden (rootOf_len (b := (rtB e5 l5).take N) (by rw [List.length_take, hsec.out.1]; omega))
                  have hNi : (N : Int) ≤ 128 := by omega
                  have hN0 : (0 : Int) ≤ (N : Int) := by omega
                  clear hB8 h8 hw8 hu8
                  go_wp2_with fail
                  with_reducible refine (hN.out _).mono ?_
                  rintro r w' ⟨rfl, rfl⟩
                  go_wp2_with fail
                  with_reducible refine hRd.out.mono ?_
                  rintro r w10 ⟨hb10, hv10⟩
                  rcases hv10 with ⟨_, _, _, h10, _⟩ | ⟨_, rfl⟩
                  · exact absurd (h10.symm.trans hnone.out) (by simp)
                  · have hB10 := hidden (hB9.out.block (hb10.block _ hB9.out.lt))
                    have h10 := hidden (h9.out.next hb10)
                    have hw10 := hidden (hw9.out.trans (hb10.mono hw9.out.size))
                    have hu10 := hidden (hu9.out.below hb10 (Nat.le_refl _))
                    clear hb10 hB9 h9 hw9 hu9 ha9 hRd hnone
                    generalize (w8.alloc (rtO 0 (.slice none 0 0))) = w9 at *
                    have ha11 := hidden ((Below.refl w10.heap.size w10).alloc (Nat.le_refl _) (rtO 0 (.slice none 0 0)))
                    have hB11 := hidden (hB10.out.block (ha11.out.block _ hB10.out.lt))
                    have h11 := hidden (h10.out.next ha11.out)
                    have hw11 := hidden (hw10.out.trans (ha11.out.mono hw10.out.size))
                    have hu11 := hidden (hu10.out.below ha11.out (Nat.le_refl _))
                    have hCp := hidden (refBytes_any _ _ _ (hB11.out.reads hsec.out.1 (by decide)) (by rw [hsec.out.1]; decide))
                    clear hB10 h10 hw10 hu10 ha11
                    go_wp2_with fail
                    with_reducible refine hCp.out.mono ?_
                    rintro r w12 ⟨v12, rfl, hown12, hb12⟩
                    rw [hsec.out.1] at hown12
                    have hz12 := hb12.size
                    clear hCp hB11
                    generalize (w10.alloc (rtO 0 (.slice none 0 0))) = w11 at *
                    go_wp2_with (at_builtin; refine wpList_app1 rfl _ _ 24 rfl 5 Tryd.underlying24 infoU8 rfl (by decide) w11.heap.size _ _ _ rfl hown12 _ rfl rfl ?_ hz12 ?_)
                    case _ => decide
                    intro v13 w13 hown13 hb13
                    have hr13 := reads_of_own (k := .u8) (xs := rtB e5 l5 ++ [0]) (n := 128 + 1) (by simpa [secV] using hown13)
                    have hb13' := hb12.trans hb13
                    have h13 := hidden (h11.out.next hb13')
                    have hw13 := hidden (hw11.out.trans (hb13'.mono hw11.out.size))
                    have hu13 := hidden (hu11.out.below hb13' (Nat.le_refl _))
                    have hRd := hidden (rtRead_any A _ _ w13 hr13 (hE.out _ hw13.out) (fun x hx => by
                      rcases List.mem_append.1 hx with h | h
                      · exact hsec.out.2 x h
                      · rw [List.mem_singleton.1 h]; decide))
                    have hnone := hidden (rootOf_len (b := rtB e5 l5 ++ [0]) (by rw [List.length_append, hsec.out.1]; decide))
                    clear hr13 hb13 hb13' hb12 hown13 hown12 h11 hw11 hu11
                    go_wp2_with fail
                    with_reducible refine hRd.out.mono ?_
                    rintro r w14 ⟨hb14, hv14⟩
                    rcases hv14 with ⟨_, _, _, h14, _⟩ | ⟨_, rfl⟩
                    · exact absurd (h14.symm.trans hnone.out) (by simp)
                    · have ha15 := (hb14.trans (((Below.refl w14.heap.size w14).alloc (Nat.le_refl _) (rtO 0 (.slice none 0 0))).mono hb14.size))
                      have h15 := hidden ((h13.out.next ha15).at)
                      have hw15 := hidden (hw13.out.trans (ha15.mono hw13.out.size))
                      have hu15 := hidden (hu13.out.below ha15 (Nat.le_refl _))
                      clear ha15 hb14 h13 hw13 hu13 hRd hnone
                      go_wp2_with fail
                      generalize (w14.alloc (rtO 0 (.slice none 0 0))) = w15 at *
                      have hM := hidden (fun W (hW : Below w15.heap.size w15 W) => made_any e5 _ l5 W (hr.out.below (hw15.out.trans (hW.mono hw15.out.size)) (Nat.le_refl _)) (by omega))
                      have hSm := hidden (fun W v (hW : Below w15.heap.size w15 W) hv => same_yes e5 _ v l5 W (hu15.out.below hW (Nat.le_refl _)) hv (by omega))
                      have hd := hidden h15.out.drew
                      go_region_held3 (fun w' => w'.cell? ⟨z5, 0, none⟩ = some (.int .i64 e5) ∧ w'.cell? ⟨z5, 1, none⟩ = some (.slice ua l5.length uc) ∧ Below w15.heap.size w15 w')
                        ((first | exact hd.out | exact S2.next (by assumption) hbS | exact S2.next (by assumption) hbM))
                        (first
                          | (go_at_call 14; (with_reducible refine (hSm.out _ _ (by exact S2.low (by assumption)) huM).mono ?_); rintro r wS ⟨rfl, hbS⟩)
                          | (go_at_call 9; (with_reducible refine (hM.out _ (by exact S2.low (by assumption))).mono ?_); rintro r wM ⟨uM, rfl, huM, hfM, hbM⟩))
                      have hh := S2.low (by assumption)
                      replace hh := hidden (hw15.out.trans (hh.mono hw15.out.size))
                      clear huM hfM hbM hbS
                      go_wp2
                      go_ret
                      exact ⟨rfl, hh.out⟩
              · exact absurd h5 (by simp)
            · exact absurd hz hne
          · obtain ⟨j, hj⟩ := errOf_at (A := A) hz
            have hne := hidden hz
            replace hj := hidden hj
            clear hz hN
            by_cases e0 : e < 1
            · have hc := hidden (show rtC e l = 103 by rw [rtC, if_pos (.inl e0)])
              have hbb := hidden (show (rtC e l == 103) = true by rw [hc.out]; rfl)
              go_wp2_with fail
              with_reducible refine hM.out.mono ?_
              rintro r w2 ⟨u, rfl, hu, hfu, hb2⟩
              have hB := hidden (rtBytes_any A e u l w2 hu (hE.out _ (hw.out.trans (hb2.mono hw.out.size))))
              have hw2 := hidden (hw.out.trans (hb2.mono hw.out.size))
              clear hu hfu hb2
              go_wp2_with fail
              with_reducible refine hB.out.mono ?_
              rintro r w3 ⟨hb3, v3, rfl, hv3⟩
              rcases hv3 with ⟨hz, _⟩ | ⟨_, rfl⟩
              · exact absurd hz hne.out
              · have hw3 := hidden (hw2.out.trans (hb3.mono hw2.out.size))
                have hI3 := hidden (hI.out (rtC e l) hcode.out 103 w3 hw3.out)
                rw [hj.out] at hI3 ⊢
                rw [hbb.out] at hI3
                clear hb3 hB
                go_wp2_with fail
                with_reducible refine hI3.out.mono ?_
                rintro r w4 ⟨rfl, hb4⟩
                have hw4 := hidden (hw3.out.trans (hb4.mono hw3.out.size))
                clear hb4 hI3
                go_wp2
                go_ret
                exact ⟨rfl, hw4.out⟩
            · by_cases e1 : 1099511627776 < e
              · have hc := hidden (show rtC e l = 103 by rw [rtC, if_pos (.inr e1)])
                have hbb := hidden (show (rtC e l == 103) = true by rw [hc.out]; rfl)
                go_wp2_with fail
                with_reducible refine hM.out.mono ?_
                rintro r w2 ⟨u, rfl, hu, hfu, hb2⟩
                have hB := hidden (rtBytes_any A e u l w2 hu (hE.out _ (hw.out.trans (hb2.mono hw.out.size))))
                have hw2 := hidden (hw.out.trans (hb2.mono hw.out.size))
                clear hu hfu hb2
                go_wp2_with fail
                with_reducible refine hB.out.mono ?_
                rintro r w3 ⟨hb3, v3, rfl, hv3⟩
                rcases hv3 with ⟨hz, _⟩ | ⟨_, rfl⟩
                · exact absurd hz hne.out
                · have hw3 := hidden (hw2.out.trans (hb3.mono hw2.out.size))
                  have hI3 := hidden (hI.out (rtC e l) hcode.out 103 w3 hw3.out)
                  rw [hj.out] at hI3 ⊢
                  rw [hbb.out] at hI3
                  clear hb3 hB
                  go_wp2_with fail
                  with_reducible refine hI3.out.mono ?_
                  rintro r w4 ⟨rfl, hb4⟩
                  have hw4 := hidden (hw3.out.trans (hb4.mono hw3.out.size))
                  clear hb4 hI3
                  go_wp2
                  go_ret
                  exact ⟨rfl, hw4.out⟩
              · have hd := hb0.out (by omega) (by omega)
                rw [hd]
                have hbb := hidden (show (rtC e l == rtC e l) = true by simp)
                clear hd hb0
                have hcc := hidden (rfl : rtC e l = rtC e l)
                go_wp2_with fail
                with_reducible refine hM.out.mono ?_
                rintro r w2 ⟨u, rfl, hu, hfu, hb2⟩
                have hB := hidden (rtBytes_any A e u l w2 hu (hE.out _ (hw.out.trans (hb2.mono hw.out.size))))
                have hw2 := hidden (hw.out.trans (hb2.mono hw.out.size))
                clear hu hfu hb2
                go_wp2_with fail
                with_reducible refine hB.out.mono ?_
                rintro r w3 ⟨hb3, v3, rfl, hv3⟩
                rcases hv3 with ⟨hz, _⟩ | ⟨_, rfl⟩
                · exact absurd hz hne.out
                · have hw3 := hidden (hw2.out.trans (hb3.mono hw2.out.size))
                  have hI3 := hidden (hI.out (rtC e l) hcode.out (rtC e l) w3 hw3.out)
                  rw [hj.out] at hI3 ⊢
                  rw [hbb.out] at hI3
                  clear hb3 hB
                  go_wp2_with fail
                  with_reducible refine hI3.out.mono ?_
                  rintro r w4 ⟨rfl, hb4⟩
                  have hw4 := hidden (hw3.out.trans (hb4.mono hw3.out.size))
                  clear hb4 hI3
                  go_wp2
                  go_ret
                  exact ⟨rfl, hw4.out⟩
end Go.Proofs.YtcjjjoodnddoeaaDoor
