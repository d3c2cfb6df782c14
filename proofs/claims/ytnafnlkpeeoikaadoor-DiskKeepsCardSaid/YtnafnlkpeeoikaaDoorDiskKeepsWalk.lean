import Derived.Test.YtnafnlkpeeoikaaDoorDiskTearsWalk
namespace Go.Proofs.YtnafnlkpeeoikaaDoor
open Go.RowKit
set_option linter.unusedVariables false

theorem insP_last {x : Int × List Int} : ∀ {l : List (Int × List Int)}, (∀ p ∈ l, p.1 < x.1) → insP x l = l ++ [x]
  | [], _ => rfl
  | y :: r, h => by
    have := h y (by simp)
    rw [insP, if_neg (by omega), insP_last fun p hp => h p (by simp [hp])]
    rfl
theorem putP_last {ps : List (Int × List Int)} {i : Int} {s : List Int} (h : ∀ p ∈ ps, p.1 < i) : putP ps i s = ps ++ [(i, s)] := by
  have e : ps.filter (fun p => !(p.1 == i)) = ps := List.filter_eq_self.2 fun p hp => by have := h p hp; simp; omega
  rw [putP, e, insP_last h]
/-- what the sectors held; what is pending behind k writes. -/
def keepFl (a : Int) (i : Nat) : List Int := if i = 0 then rep a else rep 0
def keepPs (b : Int) : Nat → List (Int × List Int)
  | 0 => []
  | k + 1 => keepPs b k ++ [((k : Int), rep b)]
theorem keepPs_lt (b : Int) : ∀ k, ∀ p ∈ keepPs b k, p.1 < (k : Int)
  | 0, p, hp => absurd hp List.not_mem_nil
  | k + 1, p, hp => by
    rcases List.mem_append.1 hp with h | h
    · have := keepPs_lt b k p h; omega
    · rw [List.mem_singleton.1 h]; simp only; omega
theorem keepPs_put (b : Int) (k : Nat) : putP (keepPs b k) (k : Int) (rep b) = keepPs b (k + 1) := putP_last (keepPs_lt b k)
theorem keep_first (a : Int) : ((newDk 8).write 0 (rep a)).flush.fl = keepFl a := by
  funext i
  show (pget (putP [] 0 (rep a)) i).getD (List.replicate 128 0) = _
  rw [pget_put]
  unfold keepFl
  by_cases h : i = 0
  · subst h; rfl
  · rw [if_neg (by omega), if_neg h]; rfl
structure Kept (a b : Int) (k : Nat) (D : Dk) : Prop where
  n : D.n = 8
  calm : D.Calm
  fl : D.fl = keepFl a
  ps : D.ps = keepPs b k
theorem kept_first (a b : Int) : Kept a b 0 ((newDk 8).write 0 (rep a)).flush := ⟨rfl, ((calm_new 8).write _ _).flush, keep_first a, rfl⟩
theorem Kept.more {a b : Int} {k : Nat} {D : Dk} (h : Kept a b k D) : Kept a b (k + 1) (D.write (k : Int) (rep b)) :=
  ⟨h.n, h.calm.write _ _, h.fl, by show putP D.ps _ _ = _; rw [h.ps, keepPs_put]⟩
/-- behind a fall. -/
theorem kept_see {a b : Int} {D : Dk} (h : Kept a b 8 D) (picks : List Int) (i : Nat) (hi : i < 8) : (D.crash picks).see i = mix (picks.getD i 0) (rep b) (keepFl a i) := by
  have e : D.ps = keepPs b 8 := h.ps
  show crN D.ps picks D.fl D.ps.length i = _
  rw [e, h.fl]
  have hl : (keepPs b 8).length = 8 := rfl
  rw [hl]
  have hc : i = 0 ∨ i = 1 ∨ i = 2 ∨ i = 3 ∨ i = 4 ∨ i = 5 ∨ i = 6 ∨ i = 7 := by omega
  rcases hc with rfl | rfl | rfl | rfl | rfl | rfl | rfl | rfl <;> rfl
theorem mix_none {p : Int} (h : p % 3 = 0) (s f : List Int) : mix p s f = f := by simp [mix, rch, h]
theorem mix_all {p : Int} (h : p % 3 = 1) {s f : List Int} (hs : s.length = 128) (hf : f.length = 128) : mix p s f = s := by
  simp [mix, rch, h, List.take_of_length_le, List.drop_of_length_le, hs, hf]
theorem keepFl_len (a : Int) (i : Nat) : (keepFl a i).length = 128 := by unfold keepFl; split <;> exact rep_len _
theorem keepFl_rep (a : Int) (i : Nat) : keepFl a i = rep (if i = 0 then a else 0) := by unfold keepFl; split <;> rfl
def KeepRel1 (a b : Int) (d g m : Nat) (w0 : World) (i : Value) (wr : World) : Prop := ∃ (k : Nat) (D : Dk), i = .int .i64 (k : Int) ∧ k ≤ 8 ∧ LawAt w0 wr d g m D ∧ Kept a b k D
/-- the two disks of the second loop. -/
def KeepRel2 (a b : Int) (z : List Int) (d g m c cg cm : Nat) (D : Dk) (w0 : World) (i : Value) (wr : World) : Prop := ∃ k : Nat, i = .int .i64 (k : Int) ∧ k ≤ 8 ∧ LawAt w0 wr d g m (D.crash z) ∧ LawAt w0 wr c cg cm (D.crash [])

set_option maxRecDepth 100000 in
set_option maxHeartbeats 8000000 in
theorem walk_diskKeeps (a b : Int) (v : Value) (z : List Int) (A : Nat → Addr) (w : World) (ha : 0 ≤ a) (ha2 : a ≤ 255) (hb : 0 ≤ b) (hb2 : b ≤ 255) (hv : Reads .i64 w v z) (hz : ∀ x ∈ z, -9223372036854775808 ≤ x ∧ x ≤ 9223372036854775807) (hS : SentsOn [1, 2, 7, 8] w A) :
    Calls Tryd.prog 4 #[.int .u8 a, .int .u8 b, v] w fun e w' => e = .returned (.bool true) ∧ Below w.heap.size w w' := by
  have hF := hidden (law5_first A w (hS.on.sub (by decide)))
  have hE := hidden (fun W (h : Below w.heap.size w W) => (hS.on.sub (ks := [1, 7, 8]) (by decide)).below h (Nat.le_refl _))
  have hoa := hidden (rep_ok (b := a) (by omega))
  have hob := hidden (rep_ok (b := b) (by omega))
  have hvW := hidden (fun W (h : Below w.heap.size w W) => hv.below h (Nat.le_refl _))
  obtain ⟨va, vc, rfl⟩ := reads_slice hv
  replace hv := hidden hv
  replace hz := hidden hz
  clear hS ha ha2 hb hb2
  by_cases hlen : 16 < z.length
  · have hli : (16 : Int) < (z.length : Int) := by omega
    go_enter Tryd.func4, Tryd.ntmps4
    go_wp2_with fail
    refine hF.out.mono ?_
    rintro e w1 ⟨rfl, hw⟩
    replace hw := hidden hw
    go_wp2
    go_ret
    exact ⟨rfl, hw.out⟩
  · have hli : ¬ (16 : Int) < (z.length : Int) := by omega
    go_enter Tryd.func4, Tryd.ntmps4
    go_wp2_with fail
    refine hF.out.mono ?_
    rintro e w1 ⟨rfl, hw⟩
    replace hw := hidden hw
    clear hF
    go_wp2_with fail
    refine (lnew 8 (by decide) (by decide) hw.out).mono ?_
    rintro e w2 ⟨d, g, m, rfl, h2, _, _⟩
    replace h2 := hidden h2
    clear hw
    go_wp2_with fail
    refine (lwhole h2.out a).mono ?_
    rintro e w3 ⟨gb, rfl, h3, hr, hap, _⟩
    replace h3 := hidden h3
    replace hr := hidden hr
    replace hap := hidden hap
    clear h2
    go_wp2_with fail
    refine (lwrite h3.out (hE.out _ h3.out.low) (calm_new 8) 0 (by decide) (by decide) hap.out hoa.out hr.out).mono ?_
    rintro e w4 ⟨rfl, h4, _⟩
    replace h4 := hidden h4
    clear h3 hr hap
    go_wp2_with fail
    refine (lflush h4.out (hE.out _ h4.out.low) ((calm_new 8).write _ _)).mono ?_
    rintro e w5 ⟨rfl, h5, _⟩
    replace h5 := hidden h5
    clear h4
    go_wp2_with fail
    go_loopw [10] (fun i wr => KeepRel1 a b d g m w i wr) (fun i _ => 8 - (RowKit.intOf i).toNat)
    case atStart => exact ⟨0, _, rfl, by omega, h5.out, kept_first a b⟩
    case round =>
      clear h5
      obtain ⟨k, D, rfl, hk, h, hK⟩ := hrel
      replace h := hidden h
      replace hK := hidden hK
      by_cases hlt : k < 8
      · have hki : (k : Int) < 8 := by omega
        go_wp2_with fail
        refine (lwhole h.out b).mono ?_
        rintro e w6 ⟨gb, rfl, h6, hr, hap, _⟩
        replace h6 := hidden h6
        replace hr := hidden hr
        replace hap := hidden hap
        go_wp2_with fail
        refine (lwrite h6.out (hE.out _ h6.out.low) hK.out.calm (k : Int) (by omega) (by rw [hK.out.n]; omega) hap.out hob.out hr.out).mono ?_
        rintro e w7 ⟨rfl, h7, _⟩
        replace h7 := hidden h7
        clear h6 hr hap
        go_wp2
        go_roundw
        case rel => exact ⟨k + 1, _, by go_num, by omega, h7.out, hK.out.more⟩
        case measure => simp [RowKit.intOf]; omega
      · obtain rfl : k = 8 := by omega
        go_wp2_with fail
        refine (lclone h.out).mono ?_
        rintro e w6 ⟨c, cg, cm, rfl, hc6, hb6, hap6⟩
        have h6 := hidden (h.out.below hb6)
        have hdis := hidden (show ∀ q, dskB d g m q → ¬ dskB c cg cm q from fun q h1 h2 => by have := h.out.lt q h1; have := hap6 q h2; omega)
        have hdis2 := hidden (show ∀ q, dskB c cg cm q → ¬ dskB d g m q from fun q h1 h2 => hdis.out q h2 h1)
        replace hc6 := hidden hc6
        clear h hb6 hap6
        go_wp2_with fail
        refine (lcrash hc6.out (Reads.nil .i64 _) (fun b hb => by cases hb) (fun p hp => absurd hp List.not_mem_nil)).mono ?_
        rintro e w7 ⟨rfl, hc7, ht7⟩
        have h7 := hidden (h6.out.other ht7 hc6.out.hS hdis.out)
        replace hc7 := hidden hc7
        clear h6 hc6 ht7
        go_wp2_with fail
        refine (lcrashIn h7.out hv.out hz.out).mono ?_
        rintro e w8 ⟨rfl, h8, ht8⟩
        have hc8 := hidden (hc7.out.other ht8 h7.out.hS hdis2.out)
        replace h8 := hidden h8
        clear h7 hc7 ht8
        go_wp2_with fail
        go_loopw [12] (fun i wr => KeepRel2 a b z d g m c cg cm D w i wr) (fun i _ => 8 - (RowKit.intOf i).toNat)
        case atStart => exact ⟨0, rfl, by omega, h8.out, hc8.out⟩
        case round =>
          clear h8 hc8
          obtain ⟨k, rfl, hk, h, hc⟩ := hrel
          replace h := hidden h
          replace hc := hidden hc
          by_cases hlt : k < 8
          · have hki : (k : Int) < 8 := by omega
            have hkd := hidden (show k < D.n by rw [hK.out.n]; exact hlt)
            have hs1 := hidden (kept_see hK.out z k hlt)
            have hs2 := hidden ((kept_see hK.out [] k hlt).trans (mix_none (by rfl) _ _))
            have hkr := hidden (keepFl_rep a k)
            obtain ⟨wv, hwv, hwx⟩ : ∃ wv : Int, wv = (if k = 0 then a else 0) ∧ True := ⟨_, rfl, trivial⟩
            rw [← hwv] at hkr
            replace hwv := hidden hwv
            clear hwx
            by_cases hk0 : k = 0
            · have hk0b : ((k : Int) == 0) = true := by simp [hk0]
              have hwa := hidden (show a = wv by rw [hwv.out, if_pos hk0])
              clear hk0
              go_wp2_with fail
              refine (lread h.out (hE.out _ h.out.low) (calm_crash _ _) k hkd.out).mono ?_
              rintro e wA ⟨g1, rfl, hA1, r1, bA⟩
              rw [hs1.out] at r1
              have hcA := hidden (hc.out.below bA)
              replace hA1 := hidden hA1
              replace r1 := hidden r1
              clear h hc bA hs1
              go_wp2_with fail
              refine (lread hcA.out (hE.out _ hcA.out.low) (calm_crash _ _) k hkd.out).mono ?_
              rintro e wB ⟨g2, rfl, hcB, r2, bB⟩
              rw [hs2.out, hkr.out] at r2
              have hB := hidden (hA1.out.below bB)
              replace r1 := hidden (r1.out.below bB (Nat.le_refl _))
              replace hcB := hidden hcB
              replace r2 := hidden r2
              clear hcA hA1 bB hs2 hkd
              go_wp2_with fail
              refine (lwhole hB.out a).mono ?_
              rintro e wC ⟨g3, rfl, hC, r3, _, bC⟩
              rw [hwa.out] at r3
              have hcC := hidden (hcB.out.below bC)
              have hsb := hidden (sameBytes_any _ _ _ _ wC (r2.out.below bC (Nat.le_refl _)) r3 (by rw [rep_len]; decide))
              replace r1 := hidden (r1.out.below bC (Nat.le_refl _))
              replace hC := hidden hC
              clear hcB hB r2 r3 bC
              go_wp2_with fail
              refine hsb.out.mono ?_
              rintro e wD ⟨rfl, q, rfl⟩
              simp only [decide_true]
              have hW := hidden (hC.out.drawn q)
              have hcW := hidden (hcC.out.drawn q)
              replace r1 := hidden (reads_drawn r1.out q)
              clear hC hcC hsb
              generalize wC.drewN q = W at hW hcW r1 ⊢
              have hvr := hvW.out W hW.out.low
              replace r1 := r1.out
              by_cases hp : k < z.length
              · have hpb : -9223372036854775808 ≤ z.getD k 0 ∧ z.getD k 0 ≤ 9223372036854775807 := by
                  rw [List.getD_eq_getElem?_getD, List.getElem?_eq_getElem hp]
                  exact hz.out _ (List.getElem_mem hp)
                obtain ⟨pb, po, rfl, cp⟩ := hvr.cell k hp
                have hpi : (k : Int) < (z.length : Int) := by omega
                clear hvr
                generalize z.getD k 0 = p at r1 cp hpb
                have h3 : p % 3 = 0 ∨ p % 3 = 1 ∨ p % 3 = 2 := by omega
                rcases h3 with hp3 | hp3 | hp3
                · have hnum := hidden (fun W => number_any p 3 W hpb.1 hpb.2 (by decide) (by decide))
                  rw [hp3] at hnum
                  rw [mix_none hp3, hkr.out] at r1
                  replace r1 := hidden r1
                  clear hp3 hpb
                  go_wp2_with (go_at_call 9; with_reducible refine (hnum.out _).mono ?_; rintro e w' ⟨rfl, rfl⟩)
                  refine (lwhole hW.out a).mono ?_
                  rintro e wE ⟨g5, rfl, hE5, r5, _, bE⟩
                  rw [hwa.out] at r5
                  have hcE := hidden (hcW.out.below bE)
                  have hsb := hidden (sameBytes_any _ _ _ _ wE (r1.out.below bE (Nat.le_refl _)) r5 (by rw [rep_len]; decide))
                  replace hE5 := hidden hE5
                  clear hW hcW r1 r5 bE
                  go_wp2_with fail
                  refine hsb.out.mono ?_
                  rintro e wF ⟨rfl, q2, rfl⟩
                  simp only [decide_true]
                  have hW := hidden (hE5.out.drawn q2)
                  have hcW := hidden (hcE.out.drawn q2)
                  clear hsb hE5 hcE
                  go_wp2
                  go_roundw
                  case rel => exact ⟨k + 1, by go_num, by omega, hW.out, hcW.out⟩
                  case measure => simp [RowKit.intOf]; omega
                · have hnum := hidden (fun W => number_any p 3 W hpb.1 hpb.2 (by decide) (by decide))
                  rw [hp3] at hnum
                  rw [mix_all hp3 (rep_len b) (keepFl_len a k)] at r1
                  replace r1 := hidden r1
                  clear hp3 hpb
                  go_wp2_with (go_at_call 9; with_reducible refine (hnum.out _).mono ?_; rintro e w' ⟨rfl, rfl⟩)
                  refine (lwhole hW.out b).mono ?_
                  rintro e wE ⟨g5, rfl, hE5, r5, _, bE⟩
                  have hcE := hidden (hcW.out.below bE)
                  have hsb := hidden (sameBytes_any _ _ _ _ wE (r1.out.below bE (Nat.le_refl _)) r5 (by rw [rep_len]; decide))
                  replace hE5 := hidden hE5
                  clear hW hcW r1 r5 bE
                  go_wp2_with fail
                  refine hsb.out.mono ?_
                  rintro e wF ⟨rfl, q2, rfl⟩
                  simp only [decide_true]
                  have hW := hidden (hE5.out.drawn q2)
                  have hcW := hidden (hcE.out.drawn q2)
                  clear hsb hE5 hcE
                  go_wp2
                  go_roundw
                  case rel => exact ⟨k + 1, by go_num, by omega, hW.out, hcW.out⟩
                  case measure => simp [RowKit.intOf]; omega
                · have hnum := hidden (fun W => number_any p 3 W hpb.1 hpb.2 (by decide) (by decide))
                  rw [hp3] at hnum
                  replace r1 := hidden r1
                  clear hp3 hpb
                  go_wp2_with (go_at_call 9; with_reducible refine (hnum.out _).mono ?_; rintro e w' ⟨rfl, rfl⟩)
                  go_roundw
                  case rel => exact ⟨k + 1, by go_num, by omega, hW.out, hcW.out⟩
                  case measure => simp [RowKit.intOf]; omega
              · rw [pick_out hp, mix_none (by rfl), hkr.out] at r1
                replace r1 := hidden r1
                have hpi : ¬ (k : Int) < (z.length : Int) := by omega
                clear hvr
                go_wp2_with fail
                refine (lwhole hW.out a).mono ?_
                rintro e wE ⟨g5, rfl, hE5, r5, _, bE⟩
                rw [hwa.out] at r5
                have hcE := hidden (hcW.out.below bE)
                have hsb := hidden (sameBytes_any _ _ _ _ wE (r1.out.below bE (Nat.le_refl _)) r5 (by rw [rep_len]; decide))
                replace hE5 := hidden hE5
                clear hW hcW r1 r5 bE
                go_wp2_with fail
                refine hsb.out.mono ?_
                rintro e wF ⟨rfl, q2, rfl⟩
                simp only [decide_true]
                have hW := hidden (hE5.out.drawn q2)
                have hcW := hidden (hcE.out.drawn q2)
                clear hsb hE5 hcE
                go_wp2
                go_roundw
                case rel => exact ⟨k + 1, by go_num, by omega, hW.out, hcW.out⟩
                case measure => simp [RowKit.intOf]; omega
            · have hk0b : ((k : Int) == 0) = false := by simp [hk0]
              have hwa := hidden (show 0 = wv by rw [hwv.out, if_neg hk0])
              clear hk0
              go_wp2_with fail
              refine (lread h.out (hE.out _ h.out.low) (calm_crash _ _) k hkd.out).mono ?_
              rintro e wA ⟨g1, rfl, hA1, r1, bA⟩
              rw [hs1.out] at r1
              have hcA := hidden (hc.out.below bA)
              replace hA1 := hidden hA1
              replace r1 := hidden r1
              clear h hc bA hs1
              go_wp2_with fail
              refine (lread hcA.out (hE.out _ hcA.out.low) (calm_crash _ _) k hkd.out).mono ?_
              rintro e wB ⟨g2, rfl, hcB, r2, bB⟩
              rw [hs2.out, hkr.out] at r2
              have hB := hidden (hA1.out.below bB)
              replace r1 := hidden (r1.out.below bB (Nat.le_refl _))
              replace hcB := hidden hcB
              replace r2 := hidden r2
              clear hcA hA1 bB hs2 hkd
              go_wp2_with fail
              refine (lwhole hB.out 0).mono ?_
              rintro e wC ⟨g3, rfl, hC, r3, _, bC⟩
              rw [hwa.out] at r3
              have hcC := hidden (hcB.out.below bC)
              have hsb := hidden (sameBytes_any _ _ _ _ wC (r2.out.below bC (Nat.le_refl _)) r3 (by rw [rep_len]; decide))
              replace r1 := hidden (r1.out.below bC (Nat.le_refl _))
              replace hC := hidden hC
              clear hcB hB r2 r3 bC
              go_wp2_with fail
              refine hsb.out.mono ?_
              rintro e wD ⟨rfl, q, rfl⟩
              simp only [decide_true]
              have hW := hidden (hC.out.drawn q)
              have hcW := hidden (hcC.out.drawn q)
              replace r1 := hidden (reads_drawn r1.out q)
              clear hC hcC hsb
              generalize wC.drewN q = W at hW hcW r1 ⊢
              have hvr := hvW.out W hW.out.low
              replace r1 := r1.out
              by_cases hp : k < z.length
              · have hpb : -9223372036854775808 ≤ z.getD k 0 ∧ z.getD k 0 ≤ 9223372036854775807 := by
                  rw [List.getD_eq_getElem?_getD, List.getElem?_eq_getElem hp]
                  exact hz.out _ (List.getElem_mem hp)
                obtain ⟨pb, po, rfl, cp⟩ := hvr.cell k hp
                have hpi : (k : Int) < (z.length : Int) := by omega
                clear hvr
                generalize z.getD k 0 = p at r1 cp hpb
                have h3 : p % 3 = 0 ∨ p % 3 = 1 ∨ p % 3 = 2 := by omega
                rcases h3 with hp3 | hp3 | hp3
                · have hnum := hidden (fun W => number_any p 3 W hpb.1 hpb.2 (by decide) (by decide))
                  rw [hp3] at hnum
                  rw [mix_none hp3, hkr.out] at r1
                  replace r1 := hidden r1
                  clear hp3 hpb
                  go_wp2_with (go_at_call 9; with_reducible refine (hnum.out _).mono ?_; rintro e w' ⟨rfl, rfl⟩)
                  refine (lwhole hW.out 0).mono ?_
                  rintro e wE ⟨g5, rfl, hE5, r5, _, bE⟩
                  rw [hwa.out] at r5
                  have hcE := hidden (hcW.out.below bE)
                  have hsb := hidden (sameBytes_any _ _ _ _ wE (r1.out.below bE (Nat.le_refl _)) r5 (by rw [rep_len]; decide))
                  replace hE5 := hidden hE5
                  clear hW hcW r1 r5 bE
                  go_wp2_with fail
                  refine hsb.out.mono ?_
                  rintro e wF ⟨rfl, q2, rfl⟩
                  simp only [decide_true]
                  have hW := hidden (hE5.out.drawn q2)
                  have hcW := hidden (hcE.out.drawn q2)
                  clear hsb hE5 hcE
                  go_wp2
                  go_roundw
                  case rel => exact ⟨k + 1, by go_num, by omega, hW.out, hcW.out⟩
                  case measure => simp [RowKit.intOf]; omega
                · have hnum := hidden (fun W => number_any p 3 W hpb.1 hpb.2 (by decide) (by decide))
                  rw [hp3] at hnum
                  rw [mix_all hp3 (rep_len b) (keepFl_len a k)] at r1
                  replace r1 := hidden r1
                  clear hp3 hpb
                  go_wp2_with (go_at_call 9; with_reducible refine (hnum.out _).mono ?_; rintro e w' ⟨rfl, rfl⟩)
                  refine (lwhole hW.out b).mono ?_
                  rintro e wE ⟨g5, rfl, hE5, r5, _, bE⟩
                  have hcE := hidden (hcW.out.below bE)
                  have hsb := hidden (sameBytes_any _ _ _ _ wE (r1.out.below bE (Nat.le_refl _)) r5 (by rw [rep_len]; decide))
                  replace hE5 := hidden hE5
                  clear hW hcW r1 r5 bE
                  go_wp2_with fail
                  refine hsb.out.mono ?_
                  rintro e wF ⟨rfl, q2, rfl⟩
                  simp only [decide_true]
                  have hW := hidden (hE5.out.drawn q2)
                  have hcW := hidden (hcE.out.drawn q2)
                  clear hsb hE5 hcE
                  go_wp2
                  go_roundw
                  case rel => exact ⟨k + 1, by go_num, by omega, hW.out, hcW.out⟩
                  case measure => simp [RowKit.intOf]; omega
                · have hnum := hidden (fun W => number_any p 3 W hpb.1 hpb.2 (by decide) (by decide))
                  rw [hp3] at hnum
                  replace r1 := hidden r1
                  clear hp3 hpb
                  go_wp2_with (go_at_call 9; with_reducible refine (hnum.out _).mono ?_; rintro e w' ⟨rfl, rfl⟩)
                  go_roundw
                  case rel => exact ⟨k + 1, by go_num, by omega, hW.out, hcW.out⟩
                  case measure => simp [RowKit.intOf]; omega
              · rw [pick_out hp, mix_none (by rfl), hkr.out] at r1
                replace r1 := hidden r1
                have hpi : ¬ (k : Int) < (z.length : Int) := by omega
                clear hvr
                go_wp2_with fail
                refine (lwhole hW.out 0).mono ?_
                rintro e wE ⟨g5, rfl, hE5, r5, _, bE⟩
                rw [hwa.out] at r5
                have hcE := hidden (hcW.out.below bE)
                have hsb := hidden (sameBytes_any _ _ _ _ wE (r1.out.below bE (Nat.le_refl _)) r5 (by rw [rep_len]; decide))
                replace hE5 := hidden hE5
                clear hW hcW r1 r5 bE
                go_wp2_with fail
                refine hsb.out.mono ?_
                rintro e wF ⟨rfl, q2, rfl⟩
                simp only [decide_true]
                have hW := hidden (hE5.out.drawn q2)
                have hcW := hidden (hcE.out.drawn q2)
                clear hsb hE5 hcE
                go_wp2
                go_roundw
                case rel => exact ⟨k + 1, by go_num, by omega, hW.out, hcW.out⟩
                case measure => simp [RowKit.intOf]; omega
          · obtain rfl : k = 8 := by omega
            have hlow := hidden h.out.low
            clear h hc
            go_wp2
            go_ret
            exact ⟨rfl, hlow.out⟩
end Go.Proofs.YtnafnlkpeeoikaaDoor
