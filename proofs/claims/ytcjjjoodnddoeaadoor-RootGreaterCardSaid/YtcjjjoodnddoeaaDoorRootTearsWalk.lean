import Derived.Test.YtcjjjoodnddoeaaDoorRootBytesWalk
import Derived.Test.YtcjjjoodnddoeaaDoorLaidOn
import Derived.Test.YtcjjjoodnddoeaaDoorStep
namespace Go.Proofs.YtcjjjoodnddoeaaDoor
open Go.RowKit
set_option linter.unusedVariables false

theorem same_no (e f : Int) (u v : Value) (xs ys : List Int) (w : World) (h : Reads .i64 w u xs) (h2 : Reads .i64 w v ys) (hx : xs.length ≤ 1000000) (hne : e ≠ f) :
    Calls Tryd.prog 14 #[.agg #[.int .i64 e, u], .agg #[.int .i64 f, v]] w fun r w' => r = .returned (.bool false) ∧ Below w.heap.size w w' := by
  have := same_root e f u v xs ys w h h2 hx
  simpa [hne] using this
/-- what of the two is read. -/
theorem tears_none {n : Nat} {a b : Int} {l m : List Int} {nothing : Bool} (ha : RtOk a l) (hb : RtOk b m) (hn : n ≤ 128) (h : rootOf (torn n (rtB b m) (if nothing = true then zs128 else rtB a l)) = none) : n < 128 ∧ (0 < n ∨ nothing = true) := by
  have hl : (if nothing = true then zs128 else rtB a l).length = 128 := by
    split
    · simp [zs128]
    · exact (rtB_ok ha).1
  by_cases h1 : n = 128
  · subst h1
    rw [torn_all (rtB_ok hb).1 hl, rootOf_rtB hb] at h
    cases h
  · refine ⟨by omega, ?_⟩
    by_cases h0 : 0 < n
    · exact .inl h0
    · obtain rfl : n = 0 := by omega
      rw [torn_none] at h
      split at h
      · rename_i hN; exact .inr hN
      · rw [rootOf_rtB ha] at h; cases h
theorem tears_some {n : Nat} {a b e : Int} {l m zs : List Int} {nothing : Bool} (ha : RtOk a l) (hb : RtOk b m) (hne : a ≠ b) (h : rootOf (torn n (rtB b m) (if nothing = true then zs128 else rtB a l)) = some (e, zs)) : (e = b ∧ zs = m) ∨ (nothing = false ∧ e = a ∧ zs = l) := by
  cases nothing with
  | true =>
    obtain ⟨_, h1, h2⟩ := torn_zs hb (by simpa using h)
    exact .inl ⟨h1, h2⟩
  | false =>
    rcases torn_root ha hb hne (by simpa using h) with ⟨_, h1, h2⟩ | ⟨_, h1, h2⟩
    · exact .inr ⟨rfl, h1, h2⟩
    · exact .inl ⟨h1, h2⟩
/-- an operation that is struck, taken first. -/
theorem take_struck {P : Program} {md : Region.Mode} {ops : Array Oper} {Q : Exit → Act → World → Prop} {S : World → Prop} {fuel : Nat} {listed : Array Bool} {a : Act} {w : World} (i d : Nat) {oi : Oper} (hi : ops[i]? = some oi) (hd : oi.dst = some d)
    (hs : Region.noSelect ops = true) (hf : Region.free md ops listed i = true) (hr : (Region.ready md ops listed).contains i = true)
    (hQ : ∀ c a w, Q (.panic c) (a.put (some d) undef) w → Q (.panic c) a w) (hy : Region.wanted oi (yielded ops a.tmps) = false) (hS : S w)
    (h : wpAnyH P md ops Q S fuel (listed.setIfInBounds i true) (a.put (some d) undef) w) : wpAnyH P md ops Q S (fuel + 1) listed a w := by
  rw [← hd] at hQ h
  exact wpAnyH_take hi hs hf hr hQ (.inr ⟨hy, rfl⟩) hS h
/-- one that reads at most, taken first. -/
theorem take_plain {P : Program} {md : Region.Mode} {ops : Array Oper} {Q : Exit → Act → World → Prop} {S : World → Prop} {fuel : Nat} {listed : Array Bool} {a : Act} {w : World} (i d : Nat) (v : Value) {oi : Oper} (hi : ops[i]? = some oi) (hd : oi.dst = some d)
    (hs : Region.noSelect ops = true) (hf : Region.free md ops listed i = true) (hr : (Region.ready md ops listed).contains i = true)
    (hQ : ∀ c a w, Q (.panic c) (a.put (some d) v) w → Q (.panic c) a w) (hw : Region.wanted oi (yielded ops a.tmps) = true) (hy : ∀ w, S w → (execOp a.eval oi).run P w = .ok (.value v) w) (hS : S w)
    (h : wpAnyH P md ops Q S fuel (listed.setIfInBounds i true) (a.put (some d) v) w) : wpAnyH P md ops Q S (fuel + 1) listed a w := by
  rw [← hd] at hQ h
  exact wpAnyH_take hi hs hf hr hQ (.inl ⟨hw, hy⟩) hS h
theorem refBytes_len {v : Value} {xs : List Int} {n : Nat} (w : World) (h : Reads .u8 w v xs) (hn : xs.length = n) (hx : n ≤ 1000000) :
    Calls Tryd.prog 13 #[v] w fun e w' => ∃ v', e = .returned v' ∧ w'.ownsRow w.heap.size 5 1 v' n (secV xs) ∧ Below w.heap.size w w' := by
  subst hn
  exact refBytes_any v xs w h hx
set_option maxRecDepth 100000 in
set_option maxHeartbeats 1600000 in
theorem walk_rootTears (a b : Int) (lv : Value) (l : List Int) (mv : Value) (m : List Int) (n : Int) (nothing : Bool) (A : Nat → Addr) (w : World) (ha : -9223372036854775808 ≤ a) (ha2 : a ≤ 9223372036854775807) (hb : -9223372036854775808 ≤ b) (hb2 : b ≤ 9223372036854775807)
    (hr : Reads .i64 w lv l) (hl : ∀ x ∈ l, -9223372036854775808 ≤ x ∧ x ≤ 9223372036854775807) (hll : l.length ≤ 17592186043904) (hr2 : Reads .i64 w mv m) (hm : ∀ x ∈ m, -9223372036854775808 ≤ x ∧ x ≤ 9223372036854775807) (hml : m.length ≤ 17592186043904) (hn : -9223372036854775808 ≤ n) (hn2 : n ≤ 9223372036854775807) (hS : SentsOn [1, 2, 4, 7, 8] w A) :
    Calls Tryd.prog 4 #[.int .i64 a, .int .i64 b, lv, mv, .int .i64 n, .bool nothing] w fun e w' => e = .returned (.bool true) ∧ Below w.heap.size w w' := by
  have hF := hidden (law6_first A w (hS.on.sub (by decide)))
  have hE := hidden (fun W (h : Below w.heap.size w W) => (hS.on.sub (ks := [2, 4]) (by decide)).below h (Nat.le_refl _))
  have hN := hidden (fun W => number_any n 129 W hn hn2 (by decide) (by decide))
  obtain ⟨N, hN1⟩ : ∃ N : Nat, n % 129 = (N : Int) := ⟨(n % 129).toNat, by omega⟩
  have hN2 : N ≤ 128 := by omega
  rw [hN1] at hN
  have hM := hidden (fun W (h : Below w.heap.size w W) => made_any a lv l W (hr.below h (Nat.le_refl _)) hll)
  have hM2 := hidden (fun W (h : Below w.heap.size w W) => made_any b mv m W (hr2.below h (Nat.le_refl _)) hml)
  have hsa := hidden (fun W e v (hv : Reads .i64 W v m) (hl : m.length ≤ 40) u (hu : Reads .i64 W u l) (hll : l.length ≤ 40) (hne : a ≠ b) => same_no a b u v l m W hu hv (by omega) hne)
  clear hS hl hm hn hn2 hN1 hr hr2 ha ha2 hb hb2 hsa
  go_enter Tryd.func4, Tryd.ntmps4
  go_wp2_with fail
  with_reducible refine hF.out.mono ?_
  rintro r w1 ⟨rfl, hw⟩
  replace hw := hidden hw
  clear hF
  go_wp2_with fail
  with_reducible refine (hM.out _ hw.out).mono ?_
  rintro r w2 ⟨u, rfl, hu, hfu, hb2⟩
  have hB := hidden (rtBytes_any A a u l w2 hu (hE.out _ (hw.out.trans (hb2.mono hw.out.size))))
  have hw2 := hidden (hw.out.trans (hb2.mono hw.out.size))
  clear hu hfu hb2
  go_wp2_with fail
  with_reducible refine hB.out.mono ?_
  rintro r w3 ⟨hb3, v3, rfl, hv3⟩
  have hw3 := hidden (hw2.out.trans (hb3.mono hw2.out.size))
  clear hb3 hB
  go_wp2_with fail
  with_reducible refine (hM2.out _ hw3.out).mono ?_
  rintro r w4 ⟨u4, rfl, hu4, hfu4, hb4⟩
  have hB := hidden (rtBytes_any A b u4 m w4 hu4 (hE.out _ (hw3.out.trans (hb4.mono hw3.out.size))))
  have hw4 := hidden (hw3.out.trans (hb4.mono hw3.out.size))
  replace hb4 := hidden hb4
  clear hu4 hfu4
  go_wp2_with fail
  with_reducible refine hB.out.mono ?_
  rintro r w5 ⟨hb5, v5, rfl, hv5⟩
  have hw5 := hidden (hw4.out.trans (hb5.mono hw4.out.size))
  have ht0 : ∀ x : Bool, (x == true) = x := fun x => by cases x <;> rfl
  clear hB ht0
  by_cases hz : rtC a l = 0
  · have he0 : errOf A (rtC a l) = .nilIface := by rw [hz]; rfl
    by_cases hz2 : rtC b m = 0
    · have he1 : errOf A (rtC b m) = .nilIface := by rw [hz2]; rfl
      rw [he0, he1]
      by_cases hab : a = b
      · have hab2 : (a == b) = true := beq_iff_eq.2 hab
        replace hab := hidden hab
        clear hb5 he0 he1 hv3 hv5
        go_wp2_with fail
        go_ret
        exact ⟨rfl, hw5.out⟩
      · have hab2 : (a == b) = false := beq_eq_false_iff_ne.2 hab
        rcases hv3 with ⟨_, g, rfl, hg3, hB3⟩ | ⟨hne, _⟩
        · rcases hv5 with ⟨_, g5, rfl, hg5, hB5⟩ | ⟨hne, _⟩
          · have hok := hidden (rtC_ok.1 hz)
            have hok2 := hidden (rtC_ok.1 hz2)
            have hB35 := hidden ((hB3.block (hb4.out.block _ hB3.lt)).block (hb5.block _ (hB3.block (hb4.out.block _ hB3.lt)).lt))
            replace hB5 := hidden hB5
            replace hab := hidden hab
            have hX := hidden (show (if nothing = true then zs128 else rtB a l).length = 128 ∧ ∀ x ∈ (if nothing = true then zs128 else rtB a l), 0 ≤ x ∧ x < 256 by
              split
              · exact secOk_rep (by decide)
              · exact rtB_ok hok.out)
            have hY := hidden (rtB_ok hok2.out)
            have hsn := hidden (fun z => @tears_none N a b l m nothing hok.out hok2.out hN2 z)
            have hss := hidden (fun e zs z => @tears_some N a b e l m zs nothing hok.out hok2.out hab.out z)
            obtain ⟨i0, hi, hz0, hz1, hzz⟩ := info_parts infoU8
            clear hb5 he0 he1 hg5 hg3 hB3 hb4 hz hz2 hw4 hw3 hw2 hw
            generalize hXX : (if nothing = true then zs128 else rtB a l) = X at *
            go_upto_if 54 with (fail)
            go_cut [14] (fun s14 wx => ∃ gx, s14 = .slice (some ⟨gx, 0, none⟩) 128 128 ∧ ByteAt wx gx X ∧ ByteAt wx g5 (rtB b m) ∧ Below w.heap.size w wx)
            case first =>
              cases nothing with
              | true =>
                simp only [if_true] at hXX
                subst hXX
                go_wp2_with (first | (at_make; refine wpList_make_full _ rfl _ _ 24 rfl w5.heap.size 5 i0 (.int .u8 0) 1 Tryd.underlying24 hi hz0 hz1 .i64 .i64 128 128 128 rfl rfl rfl rfl (by rw [hzz]; decide) (by unfold maxLen; decide) (Nat.le_refl _) ?_; intro w7 hown hgrow; have hst := hidden (byteAt_new hgrow hown); clear hgrow hown))
                go_meet
                exact ⟨_, rfl, hst.out.1, hB5.out.block (hst.out.2.block _ hB5.out.lt), hw5.out.trans (hst.out.2.mono hw5.out.size)⟩
              | false =>
                simp only [Bool.false_eq_true, if_false] at hXX
                subst hXX
                go_wp2_with fail
                go_meet
                exact ⟨_, rfl, hB35.out, hB5.out, hw5.out⟩
            case rest =>
              obtain ⟨gx, rfl, hbx, hby, hwx⟩ := hcut
              replace hbx := hidden hbx
              replace hby := hidden hby
              replace hwx := hidden hwx
              clear hB35 hB5 hw5 hi hz0 hz1 hzz i0 hXX
              have hNi : (N : Int) ≤ 128 := by omega
              have hN0 : (0 : Int) ≤ (N : Int) := by omega
              go_wp2_with fail
              with_reducible refine (hN.out _).mono ?_
              rintro r w' ⟨rfl, rfl⟩
              have hCp := hidden (fun W (hW : Below wc.heap.size wc W) => refBytes_len (n := N) W (reads_take (m := N) (((hby.out.reads hY.out.1 (by decide)).below hW (Nat.le_refl _))) hN2) (by rw [List.length_take, hY.out.1]; omega) (by omega))
              have hd0 := hidden (Below.refl wc.heap.size wc).drew
              have hXl := hidden (show (X.drop N).length ≤ 1099511627776 by rw [List.length_drop, hX.out.1]; omega)
              go_upto_region 11 with fail
              go_cut [18] (fun s18 wx => Reads .u8 wx s18 (torn N (rtB b m) X) ∧ Below w.heap.size w wx)
              case first =>
               by_cases hN128 : 128 = N
               · subst hN128
                 have hxR := hidden (fun W (hW : Below wc.heap.size wc W) => show Reads .u8 W (.slice (some ⟨gx, 0, none⟩) 0 0) (X.drop 128) by
                   have h := reads_part (at_ := 0) (m := 0) (c' := 0) ((hbx.out.reads hX.out.1 (by decide)).below hW (Nat.le_refl _)) (by omega) (by omega) (by omega)
                   rw [List.drop_of_length_le (by rw [hX.out.1]; omega)]
                   simpa using h)
                 go_region_held3 (fun w' => Below wc.heap.size wc w')
                   ((first | exact hd0.out | exact hd0.out.trans hb7 | exact (hd0.out.trans hb7).trans hb8))
                   (first
                     | (go_at_call 13; (with_reducible refine (hCp.out _ (by assumption)).mono ?_); rintro r w7 ⟨v7, rfl, hown7, hb7⟩)
                     | (refine step_app (by rfl) _ _ _ (by rfl) 5 Tryd.underlying24 infoU8 (by rfl) (by decide) _ v7 128 _ (by rfl) hown7 (k := .u8) (by rfl) (hxR.out _ (by assumption)) (by omega) hXl.out (Below.size hb7) ?_; intro v8 w8 hown8 hb8))
                 have hw8 := hidden (hwx.out.trans (((hd0.out.trans hb7).trans hb8).mono hwx.out.size))
                 have hr8 := hidden (reads_of_own (k := .u8) (xs := torn 128 (rtB b m) X) (n := 128 + (X.drop 128).length) (by simpa [torn, secV] using hown8))
                 clear hown8 hb8 hown7 hb7
                 go_wp2_with fail
                 go_meet
                 exact ⟨hr8.out, hw8.out⟩
               · have hxR := hidden (fun W (hW : Below wc.heap.size wc W) => show Reads .u8 W (.slice (some ⟨gx, N, none⟩) (128 - N) (128 - N)) (X.drop N) by
                   have h := reads_part (at_ := N) (m := 128 - N) (c' := 128 - N) ((hbx.out.reads hX.out.1 (by decide)).below hW (Nat.le_refl _)) (by omega) (by omega) (by omega)
                   rw [Nat.zero_add, List.take_of_length_le (by rw [List.length_drop, hX.out.1]; omega)] at h
                   exact h)
                 go_region_held3 (fun w' => Below wc.heap.size wc w')
                   ((first | exact hd0.out | exact hd0.out.trans hb7 | exact (hd0.out.trans hb7).trans hb8))
                   (first
                     | (go_at_call 13; (with_reducible refine (hCp.out _ (by assumption)).mono ?_); rintro r w7 ⟨v7, rfl, hown7, hb7⟩)
                     | (refine step_app (by rfl) _ _ _ (by rfl) 5 Tryd.underlying24 infoU8 (by rfl) (by decide) _ v7 N _ (by rfl) hown7 (k := .u8) (by rfl) (hxR.out _ (by assumption)) (by omega) hXl.out (Below.size hb7) ?_; intro v8 w8 hown8 hb8))
                 have hw8 := hidden (hwx.out.trans (((hd0.out.trans hb7).trans hb8).mono hwx.out.size))
                 have hr8 := hidden (reads_of_own (k := .u8) (xs := torn N (rtB b m) X) (n := N + (X.drop N).length) (by simpa [torn, secV] using hown8))
                 clear hown8 hb8 hown7 hb7
                 go_wp2_with fail
                 go_meet
                 exact ⟨hr8.out, hw8.out⟩
              case rest =>
              obtain ⟨hr8, hw8⟩ := hcut
              clear hCp hbx hby hwx hXl
              replace hw8 := hidden hw8
              have hRd := hidden (rtRead_any A _ _ _ hr8 (hE.out _ hw8.out) (fun x hx => by
                rcases List.mem_append.1 hx with h | h
                · exact hY.out.2 x (List.mem_of_mem_take h)
                · exact hX.out.2 x (List.mem_of_mem_drop h)))
              clear hr8
              go_wp2_with fail
              with_reducible refine hRd.out.mono ?_
              rintro r w9 ⟨hb9, hv9⟩
              have hw9 := hidden (hw8.out.trans (hb9.mono hw8.out.size))
              have hbN := hidden (fun o => (Below.refl w9.heap.size w9).alloc (Nat.le_refl _) o)
              rcases hv9 with ⟨e9, l9, u9, h9, rfl, hu9, _⟩ | ⟨h9, rfl⟩
              · obtain ⟨ua, uc, rfl⟩ := reads_slice hu9
                have hs9 := hidden (s2_new (w := w9) (e := e9) (u := .slice ua l9.length uc)).at
                have hwA := hidden (hw9.out.trans ((hbN.out (rtO e9 (.slice ua l9.length uc))).mono hw9.out.size))
                have huA := hidden (hu9.below (hbN.out (rtO e9 (.slice ua l9.length uc))) (Nat.le_refl _))
                have hd := hidden hs9.out.drew
                have hlow := hidden (fun W (hW : Below (w9.alloc (rtO e9 (.slice ua l9.length uc))).heap.size (w9.alloc (rtO e9 (.slice ua l9.length uc))) W) => hwA.out.trans (hW.mono hwA.out.size))
                have hMb := hidden (fun W hW => hM2.out W (hlow.out W hW))
                have hMa := hidden (fun W hW => hM.out W (hlow.out W hW))
                have hl40 := hok.out.len
                have hm40 := hok2.out.len
                rcases hss.out e9 l9 h9 with ⟨rfl, rfl⟩ | ⟨rfl, rfl, rfl⟩
                · have hSm := hidden (fun W v (hW : Below (w9.alloc (rtO e9 (.slice ua l9.length uc))).heap.size (w9.alloc (rtO e9 (.slice ua l9.length uc))) W) hv => same_yes e9 _ v l9 W (huA.out.below hW (Nat.le_refl _)) hv (by omega))
                  clear hb9 hu9 hw9 hs9 hsn hss hRd hM hM2
                  go_wp2_with fail
                  generalize w9.alloc (rtO e9 (.slice ua l9.length uc)) = wA at *
                  generalize w9.heap.size = z9 at *
                  refine wp_region_held_drew (S := (fun w' => w'.cell? ⟨z9, 0, none⟩ = some (.int .i64 e9) ∧ w'.cell? ⟨z9, 1, none⟩ = some (.slice ua l9.length uc) ∧ Below wA.heap.size wA w')) (by kernel_rfl) hd.out (fun hHeld => ?_)
                  refine take_plain 0 82 (.agg #[.int .i64 e9, .slice ua l9.length uc]) rfl rfl (by kernel_rfl) (by kernel_rfl) (by kernel_rfl) (fun _ _ _ h => h) (by rfl) ?_ hHeld ?_
                  · intro w hSw
                    try dsimp only at hSw
                    go_simp
                  simp only [Act.put, List.setIfInBounds_toArray, List.set_cons_zero, List.set_cons_succ]
                  refine take_plain 1 83 (.int .i64 e9) rfl rfl (by kernel_rfl) (by kernel_rfl) (by kernel_rfl) (fun _ _ _ h => h) (by rfl) ?_ hHeld ?_
                  · intro w hSw
                    try dsimp only at hSw
                    go_simp
                  simp only [Act.put, List.setIfInBounds_toArray, List.set_cons_zero, List.set_cons_succ]
                  refine take_plain 2 84 (mv) rfl rfl (by kernel_rfl) (by kernel_rfl) (by kernel_rfl) (fun _ _ _ h => h) (by rfl) ?_ hHeld ?_
                  · intro w hSw
                    try dsimp only at hSw
                    go_simp
                  simp only [Act.put, List.setIfInBounds_toArray, List.set_cons_zero, List.set_cons_succ]
                  refine wpAnyH_ready (rs := [3]) (by kernel_rfl) (by simp) ?_
                  refine AllReadyH.cons rfl (fun K hK => ?_) AllReadyH.nil
                  go_simp
                  go_at_call 9
                  with_reducible refine (hMb.out _ (S2.low hHeld)).mono ?_
                  rintro r wM ⟨uM, rfl, huM, hfM, hbM⟩
                  go_wp2_with fail
                  refine hK.out _ _ ?_ (fun hHeld => ?_)
                  · exact S2.next hHeld hbM
                  clear hK K
                  refine wpAnyH_ready (rs := [4]) (by kernel_rfl) (by simp) ?_
                  refine AllReadyH.cons rfl (fun K hK => ?_) AllReadyH.nil
                  go_simp
                  go_at_call 14
                  with_reducible refine (hSm.out _ _ (S2.low hHeld) huM).mono ?_
                  rintro r wS ⟨rfl, hbS⟩
                  go_wp2_with fail
                  refine hK.out _ _ ?_ (fun hHeld => ?_)
                  · exact S2.next hHeld hbS
                  clear hK K
                  refine take_plain 5 87 (.bool true) rfl rfl (by kernel_rfl) (by kernel_rfl) (by kernel_rfl) (fun _ _ _ h => h) (by rfl) ?_ hHeld ?_
                  · intro w hSw
                    try dsimp only at hSw
                    go_simp
                  simp only [Act.put, List.setIfInBounds_toArray, List.set_cons_zero, List.set_cons_succ]
                  refine take_struck 6 88 rfl rfl (by kernel_rfl) (by kernel_rfl) (by kernel_rfl) (fun _ _ _ h => h) (by rfl) hHeld ?_
                  simp only [Act.put, List.setIfInBounds_toArray, List.set_cons_zero, List.set_cons_succ]
                  refine take_struck 7 89 rfl rfl (by kernel_rfl) (by kernel_rfl) (by kernel_rfl) (fun _ _ _ h => h) (by rfl) hHeld ?_
                  simp only [Act.put, List.setIfInBounds_toArray, List.set_cons_zero, List.set_cons_succ]
                  refine take_struck 8 90 rfl rfl (by kernel_rfl) (by kernel_rfl) (by kernel_rfl) (fun _ _ _ h => h) (by rfl) hHeld ?_
                  simp only [Act.put, List.setIfInBounds_toArray, List.set_cons_zero, List.set_cons_succ]
                  refine take_struck 9 91 rfl rfl (by kernel_rfl) (by kernel_rfl) (by kernel_rfl) (fun _ _ _ h => h) (by rfl) hHeld ?_
                  simp only [Act.put, List.setIfInBounds_toArray, List.set_cons_zero, List.set_cons_succ]
                  refine take_struck 10 92 rfl rfl (by kernel_rfl) (by kernel_rfl) (by kernel_rfl) (fun _ _ _ h => h) (by rfl) hHeld ?_
                  simp only [Act.put, List.setIfInBounds_toArray, List.set_cons_zero, List.set_cons_succ]
                  refine take_struck 11 93 rfl rfl (by kernel_rfl) (by kernel_rfl) (by kernel_rfl) (fun _ _ _ h => h) (by rfl) hHeld ?_
                  simp only [Act.put, List.setIfInBounds_toArray, List.set_cons_zero, List.set_cons_succ]
                  refine take_struck 12 94 rfl rfl (by kernel_rfl) (by kernel_rfl) (by kernel_rfl) (fun _ _ _ h => h) (by rfl) hHeld ?_
                  simp only [Act.put, List.setIfInBounds_toArray, List.set_cons_zero, List.set_cons_succ]
                  refine take_struck 13 95 rfl rfl (by kernel_rfl) (by kernel_rfl) (by kernel_rfl) (fun _ _ _ h => h) (by rfl) hHeld ?_
                  simp only [Act.put, List.setIfInBounds_toArray, List.set_cons_zero, List.set_cons_succ]
                  refine take_struck 14 96 rfl rfl (by kernel_rfl) (by kernel_rfl) (by kernel_rfl) (fun _ _ _ h => h) (by rfl) hHeld ?_
                  simp only [Act.put, List.setIfInBounds_toArray, List.set_cons_zero, List.set_cons_succ]
                  refine take_plain 15 97 (.bool true) rfl rfl (by kernel_rfl) (by kernel_rfl) (by kernel_rfl) (fun _ _ _ h => h) (by rfl) ?_ hHeld ?_
                  · intro w hSw
                    try dsimp only at hSw
                    go_simp
                  simp only [Act.put, List.setIfInBounds_toArray, List.set_cons_zero, List.set_cons_succ]
                  refine take_plain 16 12 (.bool true) rfl rfl (by kernel_rfl) (by kernel_rfl) (by kernel_rfl) (fun _ _ _ h => h) (by rfl) ?_ hHeld ?_
                  · intro w hSw
                    try dsimp only at hSw
                    go_simp
                  simp only [Act.put, List.setIfInBounds_toArray, List.set_cons_zero, List.set_cons_succ]
                  refine wpAnyH_done (by kernel_rfl) ?_ _
                  have hh := S2.low (by assumption)
                  replace hh := hidden (hwA.out.trans (hh.mono hwA.out.size))
                  clear huM hfM hbM hbS
                  go_wp2
                  go_ret
                  exact ⟨rfl, hh.out⟩
                · have hSy := hidden (fun W v (hW : Below (w9.alloc (rtO e9 (.slice ua l9.length uc))).heap.size (w9.alloc (rtO e9 (.slice ua l9.length uc))) W) hv => same_yes e9 _ v l9 W (huA.out.below hW (Nat.le_refl _)) hv (by omega))
                  have hSn := hidden (fun W v (hW : Below (w9.alloc (rtO e9 (.slice ua l9.length uc))).heap.size (w9.alloc (rtO e9 (.slice ua l9.length uc))) W) hv => same_no e9 b _ v l9 m W (huA.out.below hW (Nat.le_refl _)) hv (by omega) hab.out)
                  clear hb9 hu9 hw9 hs9 hsn hss hRd hM hM2
                  go_wp2_with fail
                  generalize w9.alloc (rtO e9 (.slice ua l9.length uc)) = wA at *
                  generalize w9.heap.size = z9 at *
                  go_region_held3 (fun w' => w'.cell? ⟨z9, 0, none⟩ = some (.int .i64 e9) ∧ w'.cell? ⟨z9, 1, none⟩ = some (.slice ua l9.length uc) ∧ Below wA.heap.size wA w')
                    ((first | exact hd.out | exact S2.next (by assumption) hbS | exact S2.next (by assumption) hbM | exact S2.next (by assumption) hbT | exact S2.next (by assumption) hbN))
                    (first
                      | (go_at_call 9; (with_reducible refine (hMb.out _ (by exact S2.low (by assumption))).mono ?_); rintro r wM ⟨uM, rfl, huM, hfM, hbM⟩)
                      | (go_at_call 9; (with_reducible refine (hMa.out _ (by exact S2.low (by assumption))).mono ?_); rintro r wN ⟨uN, rfl, huN, hfN, hbN⟩)
                      | (go_at_call 14; (with_reducible refine (hSn.out _ _ (by exact S2.low (by assumption)) huM).mono ?_); rintro r wS ⟨rfl, hbS⟩)
                      | (go_at_call 14; (with_reducible refine (hSy.out _ _ (by exact S2.low (by assumption)) huN).mono ?_); rintro r wT ⟨rfl, hbT⟩))
                  have hh := S2.low (by assumption)
                  replace hh := hidden (hwA.out.trans (hh.mono hwA.out.size))
                  clear huM hfM hbM hbS huN hfN hbN hbT
                  go_wp2
                  go_ret
                  exact ⟨rfl, hh.out⟩
              · obtain ⟨n1, n2⟩ := hsn.out h9
                have n3 : (N : Int) < 128 := by omega
                have hend := hidden (hw9.out.trans ((hbN.out (rtO 0 (.slice none 0 0))).mono hw9.out.size))
                clear hb9
                by_cases n4 : 0 < N
                · have n5 : (0 : Int) < (N : Int) := by omega
                  go_wp2_with fail
                  go_ret
                  exact ⟨rfl, hend.out⟩
                · have n5 : ¬ (0 : Int) < (N : Int) := by omega
                  have n6 : nothing = true := by rcases n2 with h | h; exact absurd h n4; exact h
                  subst n6
                  go_wp2_with fail
                  go_ret
                  exact ⟨rfl, hend.out⟩
          · exact absurd hz2 hne
        · exact absurd hz hne
    · obtain ⟨j, hj⟩ := errOf_at (A := A) hz2
      rw [he0, hj]
      clear hb5 hv3 hv5 he0 hj
      go_wp2_with fail
      go_ret
      exact ⟨rfl, hw5.out⟩
  · obtain ⟨j, hj⟩ := errOf_at (A := A) hz
    rw [hj]
    clear hj
    by_cases hz2 : rtC b m = 0
    · have he1 : errOf A (rtC b m) = .nilIface := by rw [hz2]; rfl
      rw [he1]
      clear hb5 hv3 hv5 he1
      go_wp2_with fail
      go_ret
      exact ⟨rfl, hw5.out⟩
    · obtain ⟨j2, hj⟩ := errOf_at (A := A) hz2
      rw [hj]
      clear hb5 hv3 hv5 hj
      go_wp2_with fail
      go_ret
      exact ⟨rfl, hw5.out⟩
end Go.Proofs.YtcjjjoodnddoeaaDoor
