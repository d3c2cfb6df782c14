import Derived.Test.YtnafnlkpeeoikaaDoorDiskShapesWalk
namespace Go.Proofs.YtnafnlkpeeoikaaDoor
open Go.RowKit
set_option linter.unusedVariables false

def LFlushAny (A : Nat → Addr) (w0 W : World) (d g m : Nat) (D : Dk) (e : Ending) (W' : World) : Prop := e = .returned (errOf A (flC D)) ∧ LawAt w0 W' d g m (flD D) ∧ Trd (dskB d g m) W W'
theorem lflushAny {A : Nat → Addr} {w0 W : World} {d g m : Nat} {D : Dk} (h : LawAt w0 W d g m D) (hE : ErrsOn [1, 7, 8] W A) : Calls Tryd.prog 13 #[.pointer (some ⟨d, 0, none⟩)] W (LFlushAny A w0 W d g m D) := by
  refine (flush_any A h.at_ (hE.sub (by decide))).mono ?_
  rintro e W' ⟨rfl, hd, ht⟩
  exact ⟨rfl, h.trd hd ht, ht⟩
def LArm (w0 W : World) (d g m : Nat) (D : Dk) (n : Int) (e : Ending) (W' : World) : Prop := e = .returned (.tuple #[]) ∧ LawAt w0 W' d g m (D.arm n) ∧ Trd (dskB d g m) W W'
theorem larm {w0 W : World} {d g m : Nat} {D : Dk} (h : LawAt w0 W d g m D) (n : Int) (hn : -9223372036854775808 ≤ n) (hn2 : n ≤ 9223372036854775807) : Calls Tryd.prog 19 #[.pointer (some ⟨d, 0, none⟩), .int .i64 n] W (LArm w0 W d g m D n) := by
  refine (arm_any h.at_ n hn hn2).mono ?_
  rintro e W' ⟨rfl, hd, ht⟩
  exact ⟨rfl, h.trd hd ht, ht⟩

/-- a disk of 40 sectors, armed for the N-th call, behind k of them. -/
def Armed (N : Int) (k : Nat) (D : Dk) : Prop := D.n = 40 ∧ (1 ≤ N → (k : Int) < N → D.armed = N - k ∧ D.down = false) ∧ (1 ≤ N → N ≤ (k : Int) → D.armed = 0 ∧ D.down = true) ∧ (N < 1 → D.armed = 0 ∧ D.down = false)
theorem armed_first {N : Int} (h0 : 0 ≤ N) : Armed N 0 ((newDk 40).arm N) :=
  ⟨rfl, fun h1 h2 => ⟨by show N = _; simp, rfl⟩, fun h1 h2 => by simp at h2; omega, fun h1 => ⟨by show N = 0; omega, rfl⟩⟩
theorem armed_power {N : Int} {k : Nat} {D : Dk} (h : Armed N k D) : Armed N (k + 1) D.power := by
  obtain ⟨h0, h1, h2, h3⟩ := h
  refine ⟨by rw [power_n]; exact h0, fun a b => ?_, fun a b => ?_, fun a => ?_⟩
  · obtain ⟨c, e⟩ := h1 a (by omega)
    rw [power_pos (by omega)]
    refine ⟨by simp only; omega, ?_⟩
    simp only [e, Bool.false_or, beq_eq_false_iff_ne]
    omega
  · by_cases hk : (k : Int) < N
    · obtain ⟨c, e⟩ := h1 a hk
      rw [power_pos (by omega)]
      refine ⟨by simp only; omega, ?_⟩
      simp only [e, Bool.false_or, beq_iff_eq]
      omega
    · obtain ⟨c, e⟩ := h2 a (by omega)
      rw [power_neg (by omega)]
      exact ⟨c, e⟩
  · obtain ⟨c, e⟩ := h3 a
    rw [power_neg (by omega)]
    exact ⟨c, e⟩
theorem armed_up {N : Int} {k : Nat} {D : Dk} (h : Armed N k D) (hf : N < 1 ∨ (k : Int) + 1 < N) : D.power.down = false := by
  have := armed_power h
  rcases hf with hf | hf
  · exact (this.2.2.2 hf).2
  · exact (this.2.1 (by omega) (by omega)).2
theorem armed_down {N : Int} {k : Nat} {D : Dk} (h : Armed N k D) (hf : 1 ≤ N) (hf2 : N ≤ (k : Int) + 1) : D.power.down = true := ((armed_power h).2.2.1 hf (by omega)).2
theorem armed_write {N : Int} {k : Nat} {D : Dk} (h : Armed N k D) (i : Int) (xs : List Int) : Armed N (k + 1) (wrD D i xs) := by
  unfold wrD
  split
  · exact armed_power h
  · exact armed_power h
theorem armed_flush {N : Int} {k : Nat} {D : Dk} (h : Armed N k D) : Armed N (k + 1) (flD D) := by
  unfold flD
  split
  · exact armed_power h
  · exact armed_power h
theorem arms_wr0 {N : Int} {k : Nat} {D : Dk} (h : Armed N k D) (hf : N < 1 ∨ (k : Int) + 1 < N) {i : Int} (h0 : 0 ≤ i) (h1 : i < 40) : wrC D i 128 = 0 := by
  have : (D.n : Int) = 40 := by rw [h.1]; rfl
  simp [wrC, armed_up h hf, h0, this, h1]
theorem arms_wr1 {N : Int} {k : Nat} {D : Dk} (h : Armed N k D) (hf : 1 ≤ N) (hf2 : N ≤ (k : Int) + 1) (i : Int) (l : Nat) : wrC D i l = 109 := by
  simp [wrC, armed_down h hf hf2]
theorem arms_fl0 {N : Int} {k : Nat} {D : Dk} (h : Armed N k D) (hf : N < 1 ∨ (k : Int) + 1 < N) : flC D = 0 := by simp [flC, armed_up h hf]
theorem arms_fl1 {N : Int} {k : Nat} {D : Dk} (h : Armed N k D) (hf : 1 ≤ N) (hf2 : N ≤ (k : Int) + 1) : flC D = 109 := by simp [flC, armed_down h hf hf2]
theorem armed_fine {N : Int} {k : Nat} {D : Dk} (h : Armed N (k + 1) D) (hf : N < 1 ∨ (k : Int) + 1 < N) : D.down = false := by
  rcases hf with hf | hf
  · exact (h.2.2.2 hf).2
  · exact (h.2.1 (by omega) (by omega)).2
theorem armed_gone {N : Int} {k : Nat} {D : Dk} (h : Armed N (k + 1) D) (hf : 1 ≤ N) (hf2 : N ≤ (k : Int) + 1) : D.down = true := (h.2.2.1 hf (by omega)).2
def ArmsRel (N : Int) (d g m : Nat) (w0 : World) (i : Value) (wr : World) : Prop := ∃ (k : Nat) (D : Dk), i = .int .i64 ((k : Int) + 1) ∧ k ≤ 30 ∧ LawAt w0 wr d g m D ∧ Armed N k D

set_option maxRecDepth 100000 in
set_option maxHeartbeats 8000000 in
theorem walk_diskArms (n flush : Int) (A : Nat → Addr) (w : World) (hn : -9223372036854775808 ≤ n) (hn2 : n ≤ 9223372036854775807) (hf : -9223372036854775808 ≤ flush) (hf2 : flush ≤ 9223372036854775807) (hS : Sents w A) :
    Calls Tryd.prog 5 #[.int .i64 n, .int .i64 flush] w fun e w' => e = .returned (.bool true) ∧ Below w.heap.size w w' := by
  have hF := hidden (law5_first A w (hS.on _ (by decide)))
  have hE := hidden (fun W (h : Below w.heap.size w W) => (hS.on [1, 7, 8] (by decide)).below h (Nat.le_refl _))
  have hI := hidden (fun W (h : Below w.heap.size w W) => (show Calls Tryd.prog 20 #[errAt (A 8), .int .i64 109] W fun e w' => e = .returned (.bool ((109 : Int) == 109)) ∧ Below W.heap.size W w' from is_any A 109 109 W (hS.below h (Nat.le_refl _)) (by unfold codeOk; decide)))
  have hN := hidden (fun W => number_any n 20 W hn hn2 (by decide) (by decide))
  have hFl := hidden (fun W => number_any flush 5 W hf hf2 (by decide) (by decide))
  have n0 : 0 ≤ n % 20 := by omega
  have n1 : n % 20 < 20 := by omega
  have f0 : 0 ≤ flush % 5 := by omega
  have f1 : flush % 5 < 5 := by omega
  have h109 : ((109 : Int) == 109) = true := by decide
  clear hS hn hn2 hf hf2
  generalize n % 20 = N at *
  generalize flush % 5 = F at *
  go_enter Tryd.func5, Tryd.ntmps5
  go_wp2_with fail
  refine hF.out.mono ?_
  rintro e w1 ⟨rfl, hw⟩
  replace hw := hidden hw
  go_wp2_with (first
    | (go_at_call 9; with_reducible refine (hN.out _).mono ?_; rintro e w' ⟨rfl, rfl⟩)
    | (go_at_call 9; with_reducible refine (hFl.out _).mono ?_; rintro e w' ⟨rfl, rfl⟩))
  refine (lnew 40 (by decide) (by decide) hw.out).mono ?_
  rintro e w2 ⟨d, g, m, rfl, h2, _, _⟩
  replace h2 := hidden h2
  clear hw hF hN hFl
  go_wp2_with fail
  refine (larm h2.out N (by omega) (by omega)).mono ?_
  rintro e w3 ⟨rfl, h3, _⟩
  have hst := hidden (show LawAt w w3 d g m ((newDk 40).arm N) ∧ Armed N 0 ((newDk 40).arm N) from ⟨h3, armed_first n0⟩)
  clear h2 h3
  go_wp2_with fail
  go_loopw [8] (fun i wr => ArmsRel N d g m w i wr) (fun i _ => 31 - (RowKit.intOf i).toNat)
  case atStart => exact ⟨0, _, by simp, by omega, hst.out.1, hst.out.2⟩
  case round =>
    clear hst
    obtain ⟨k, D, rfl, hk, h, hA⟩ := hrel
    replace h := hidden h
    replace hA := hidden hA
    by_cases hlt : k < 30
    · have hki : (k : Int) + 1 ≤ 30 := by omega
      have hk0 : (0 : Int) ≤ (k : Int) := by omega
      have hF1 : ¬ F + 1 = 0 := by omega
      have hF2 : ¬ F + 1 = -1 := by omega
      by_cases hz : ((k : Int) + 1) % (F + 1) = 0
      · have hz1 : (((k : Int) + 1) % (F + 1) == 0) = true := beq_iff_eq.2 hz
        clear hz
        by_cases hN1 : N < 1
        · have hfine : N < 1 ∨ (k : Int) + 1 < N := .inl hN1
          have d1 : decide (N < 1) = true := decide_eq_true hN1
          have hres := hidden (show errOf A (flC D) = .nilIface by rw [arms_fl0 hA.out hfine]; rfl)
          have hA4 := hidden (armed_flush hA.out)
          replace hfine := hidden hfine
          go_wp2_with fail
          refine (lflushAny h.out (hE.out _ h.out.low)).mono ?_
          rintro e w4 ⟨rfl, h4, _⟩
          rw [hres.out]
          replace h4 := hidden h4
          have hdn := hidden (armed_fine hA4.out hfine.out)
          have hdc := down_any h4.out.at_
          rw [hdn.out] at hdc
          replace hdc := hidden hdc
          go_wp2_with (go_at_call 21; refine hdc.out.mono ?_; rintro e w' ⟨rfl, rfl⟩)
          go_roundw
          case rel => exact ⟨k + 1, _, by go_num, by omega, h4.out, hA4.out⟩
          case measure => simp [RowKit.intOf]; omega
        · by_cases hk1 : (k : Int) + 1 < N
          · have hfine : N < 1 ∨ (k : Int) + 1 < N := .inr hk1
            have d1 : decide (N < 1) = false := decide_eq_false hN1
            have d2 : decide ((k : Int) + 1 < N) = true := decide_eq_true hk1
            have hres := hidden (show errOf A (flC D) = .nilIface by rw [arms_fl0 hA.out hfine]; rfl)
            have hA4 := hidden (armed_flush hA.out)
            replace hfine := hidden hfine
            go_wp2_with fail
            refine (lflushAny h.out (hE.out _ h.out.low)).mono ?_
            rintro e w4 ⟨rfl, h4, _⟩
            rw [hres.out]
            replace h4 := hidden h4
            have hdn := hidden (armed_fine hA4.out hfine.out)
            have hdc := down_any h4.out.at_
            rw [hdn.out] at hdc
            replace hdc := hidden hdc
            go_wp2_with (go_at_call 21; refine hdc.out.mono ?_; rintro e w' ⟨rfl, rfl⟩)
            go_roundw
            case rel => exact ⟨k + 1, _, by go_num, by omega, h4.out, hA4.out⟩
            case measure => simp [RowKit.intOf]; omega
          · have g1 : 1 ≤ N := by omega
            have g2 : N ≤ (k : Int) + 1 := by omega
            have d1 : decide (N < 1) = false := decide_eq_false hN1
            have d2 : decide ((k : Int) + 1 < N) = false := decide_eq_false hk1
            have hres := hidden (show errOf A (flC D) = errAt (A 8) by rw [arms_fl1 hA.out g1 g2]; rfl)
            have hA4 := hidden (armed_flush hA.out)
            replace g1 := hidden g1
            replace g2 := hidden g2
            go_wp2_with fail
            refine (lflushAny h.out (hE.out _ h.out.low)).mono ?_
            rintro e w4 ⟨rfl, h4, _⟩
            rw [hres.out]
            replace h4 := hidden h4
            have hdn := hidden (armed_gone hA4.out g1.out g2.out)
            go_wp2_with fail
            refine (hI.out _ h4.out.low).mono ?_
            rintro e w6 ⟨rfl, hb6⟩
            rw [h109]
            have h6 := hidden (h4.out.below hb6)
            have hdc := down_any h6.out.at_
            rw [hdn.out] at hdc
            replace hdc := hidden hdc
            clear hb6
            go_wp2_with (go_at_call 21; refine hdc.out.mono ?_; rintro e w' ⟨rfl, rfl⟩)
            go_roundw
            case rel => exact ⟨k + 1, _, by go_num, by omega, h6.out, hA4.out⟩
            case measure => simp [RowKit.intOf]; omega
      · have hz1 : (((k : Int) + 1) % (F + 1) == 0) = false := beq_eq_false_iff_ne.2 hz
        clear hz
        by_cases hN1 : N < 1
        · have hfine : N < 1 ∨ (k : Int) + 1 < N := .inl hN1
          have d1 : decide (N < 1) = true := decide_eq_true hN1
          replace hfine := hidden hfine
          go_wp2_with fail
          refine (lwhole h.out _).mono ?_
          rintro e w4 ⟨gb, rfl, h4, hr, hap, _⟩
          replace h4 := hidden h4
          replace hr := hidden hr
          replace hap := hidden hap
          go_wp2_with fail
          refine (lwriteAny h4.out (hE.out _ h4.out.low) _ hap.out (rep_ok (by omega)).2 hr.out).mono ?_
          rintro e w5 ⟨rfl, h5, _⟩
          rw [rep_len, arms_wr0 hA.out hfine.out (by omega) (by omega)]
          rw [show errOf A 0 = .nilIface from rfl]
          have hA4 := hidden (armed_write (N := N) (k := k) (D := D) hA.out)
          clear h4 hr hap
          have h4 := hidden h5
          clear h5
          have hdn := hidden (fun i xs => armed_fine (hA4.out i xs) hfine.out)
          have hdc := down_any h4.out.at_
          rw [hdn.out _ _] at hdc
          replace hdc := hidden hdc
          go_wp2_with (go_at_call 21; refine hdc.out.mono ?_; rintro e w' ⟨rfl, rfl⟩)
          go_roundw
          case rel => exact ⟨k + 1, _, by go_num, by omega, h4.out, hA4.out _ _⟩
          case measure => simp [RowKit.intOf]; omega
        · by_cases hk1 : (k : Int) + 1 < N
          · have hfine : N < 1 ∨ (k : Int) + 1 < N := .inr hk1
            have d1 : decide (N < 1) = false := decide_eq_false hN1
            have d2 : decide ((k : Int) + 1 < N) = true := decide_eq_true hk1
            replace hfine := hidden hfine
            go_wp2_with fail
            refine (lwhole h.out _).mono ?_
            rintro e w4 ⟨gb, rfl, h4, hr, hap, _⟩
            replace h4 := hidden h4
            replace hr := hidden hr
            replace hap := hidden hap
            go_wp2_with fail
            refine (lwriteAny h4.out (hE.out _ h4.out.low) _ hap.out (rep_ok (by omega)).2 hr.out).mono ?_
            rintro e w5 ⟨rfl, h5, _⟩
            rw [rep_len, arms_wr0 hA.out hfine.out (by omega) (by omega)]
            rw [show errOf A 0 = .nilIface from rfl]
            have hA4 := hidden (armed_write (N := N) (k := k) (D := D) hA.out)
            clear h4 hr hap
            have h4 := hidden h5
            clear h5
            have hdn := hidden (fun i xs => armed_fine (hA4.out i xs) hfine.out)
            have hdc := down_any h4.out.at_
            rw [hdn.out _ _] at hdc
            replace hdc := hidden hdc
            go_wp2_with (go_at_call 21; refine hdc.out.mono ?_; rintro e w' ⟨rfl, rfl⟩)
            go_roundw
            case rel => exact ⟨k + 1, _, by go_num, by omega, h4.out, hA4.out _ _⟩
            case measure => simp [RowKit.intOf]; omega
          · have g1 : 1 ≤ N := by omega
            have g2 : N ≤ (k : Int) + 1 := by omega
            have d1 : decide (N < 1) = false := decide_eq_false hN1
            have d2 : decide ((k : Int) + 1 < N) = false := decide_eq_false hk1
            replace g1 := hidden g1
            replace g2 := hidden g2
            go_wp2_with fail
            refine (lwhole h.out _).mono ?_
            rintro e w4 ⟨gb, rfl, h4, hr, hap, _⟩
            replace h4 := hidden h4
            replace hr := hidden hr
            replace hap := hidden hap
            go_wp2_with fail
            refine (lwriteAny h4.out (hE.out _ h4.out.low) _ hap.out (rep_ok (by omega)).2 hr.out).mono ?_
            rintro e w5 ⟨rfl, h5, _⟩
            rw [rep_len, arms_wr1 hA.out g1.out g2.out]
            rw [show errOf A 109 = errAt (A 8) from rfl]
            have hA4 := hidden (armed_write (N := N) (k := k) (D := D) hA.out)
            clear h4 hr hap
            have h4 := hidden h5
            clear h5
            have hdn := hidden (fun i xs => armed_gone (hA4.out i xs) g1.out g2.out)
            go_wp2_with fail
            refine (hI.out _ h4.out.low).mono ?_
            rintro e w6 ⟨rfl, hb6⟩
            rw [h109]
            have h6 := hidden (h4.out.below hb6)
            have hdc := down_any h6.out.at_
            rw [hdn.out _ _] at hdc
            replace hdc := hidden hdc
            clear hb6
            go_wp2_with (go_at_call 21; refine hdc.out.mono ?_; rintro e w' ⟨rfl, rfl⟩)
            go_roundw
            case rel => exact ⟨k + 1, _, by go_num, by omega, h6.out, hA4.out _ _⟩
            case measure => simp [RowKit.intOf]; omega
    · obtain rfl : k = 30 := by omega
      have hn := hidden hA.out.1
      clear hA hI
      go_wp2_with fail
      refine (lcrash h.out (Reads.nil .i64 _) (fun b hb => by cases hb) (fun p hp => absurd hp List.not_mem_nil)).mono ?_
      rintro e w4 ⟨rfl, h4, _⟩
      replace h4 := hidden h4
      clear h
      go_wp2_with fail
      refine (lread h4.out (hE.out _ h4.out.low) (calm_crash _ _) 3 (by show 3 < D.n; rw [hn.out]; decide)).mono ?_
      rintro e w5 ⟨gb5, rfl, h5, _, _⟩
      have hdc := down_any h5.at_
      rw [show (D.crash []).down = false from rfl] at hdc
      replace hdc := hidden hdc
      replace h5 := hidden h5
      clear h4
      go_wp2_with (go_at_call 21; refine hdc.out.mono ?_; rintro e w' ⟨rfl, rfl⟩)
      refine (lwhole h5.out 1).mono ?_
      rintro e w6 ⟨gb, rfl, h6, hr, hap, _⟩
      replace h6 := hidden h6
      replace hr := hidden hr
      replace hap := hidden hap
      clear h5 hdc
      go_wp2_with fail
      refine (lwrite h6.out (hE.out _ h6.out.low) (calm_crash _ _) 0 (by decide) (by show (0 : Int) < (D.n : Int); rw [hn.out]; decide) hap.out (rep_ok (by decide)) hr.out).mono ?_
      rintro e w7 ⟨rfl, h7, _⟩
      replace h7 := hidden h7
      clear h6 hr hap
      go_wp2_with fail
      refine (lflush h7.out (hE.out _ h7.out.low) ((calm_crash _ _).write _ _)).mono ?_
      rintro e w8 ⟨rfl, h8, _⟩
      have hlow := hidden h8.low
      clear h7 h8
      go_wp2
      go_ret
      exact ⟨rfl, hlow.out⟩
end Go.Proofs.YtnafnlkpeeoikaaDoor
