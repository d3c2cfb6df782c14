import Derived.Test.YtnafnlkpeeoikaaDoorDiskLaw
import Derived.Test.YtnafnlkpeeoikaaDoorSameBytes
import Derived.Test.YtnafnlkpeeoikaaDoorNumber
import Derived.Test.YtnafnlkpeeoikaaDoorLaidOn
namespace Go.Proofs.YtnafnlkpeeoikaaDoor
open Go.RowKit
set_option linter.unusedVariables false

theorem reads_at {k : IntKind} {w : World} {g n c : Nat} {xs : List Int} (h : Reads k w (.slice (some ⟨g, 0, none⟩) n c) xs) (i : Nat) (hi : i < n) : w.cell? ⟨g, i, none⟩ = some (.int k (xs.getD i 0)) := by
  obtain ⟨b, o, e, hc⟩ := h.cell i hi
  obtain ⟨rfl, rfl⟩ : g = b ∧ 0 = o := by simpa using e
  simpa using hc
theorem LawAt.drawn {w0 W : World} {d g m : Nat} {D : Dk} (h : LawAt w0 W d g m D) (q : Nat) : LawAt w0 (W.drewN q) d g m D := h.below (below_drewN (Below.refl _ _))
theorem reads_drawn {k : IntKind} {W : World} {v : Value} {xs : List Int} (h : Reads k W v xs) (q : Nat) : Reads k (W.drewN q) v xs := h.same fun _ _ => rfl

/-! What the disk holds. -/
def tearD (a b p : Int) : Dk := ((((((newDk 3).write 1 (rep a)).write 2 (rep 9)).flush).write 1 (rep b)).crash [p])
theorem tear2 (a b p : Int) : (tearD a b p).see 2 = rep 9 := rfl
theorem tear1 (a b p : Int) : (tearD a b p).see 1 = mix p (rep b) (rep a) := rfl
theorem tear_ps (a b p : Int) : (tearD a b p).ps.length = 0 := rfl
theorem rch_up {N : Int} (h0 : 0 ≤ N) (h1 : N < 129) : (rch (2 + 3 * N) : Int) = N := by
  rw [rch2 (by omega) (by omega)]; omega
theorem rch_low {N : Int} (h0 : 0 ≤ N) (h1 : N < 129) : (rch (2 + 3 * N - 1935) : Int) = N := by
  rw [rch2 (by omega) (by omega)]; omega
theorem mix_at (a b p : Int) (i : Nat) (hi : i < 128) : (mix p (rep b) (rep a)).getD i 0 = if (i : Int) < rch p then b else a := by
  have hr := rch_le p
  rw [List.getD_eq_getElem?_getD, mix]
  by_cases h : i < rch p
  · rw [List.getElem?_append_left (by rw [List.length_take, rep_len]; omega), List.getElem?_take, if_pos h, rep, List.getElem?_replicate, if_pos hi, if_pos (by omega)]
    rfl
  · rw [List.getElem?_append_right (by rw [List.length_take, rep_len]; omega), List.length_take, rep_len, List.getElem?_drop, rep, List.getElem?_replicate, if_pos (by omega), if_neg (by omega)]
    rfl
def TearRel (W : World) (i : Value) (wr : World) : Prop := ∃ k : Nat, i = .int .i64 (k : Int) ∧ k ≤ 128 ∧ wr = W

set_option maxRecDepth 100000 in
set_option maxHeartbeats 8000000 in
theorem walk_diskTears (a b n : Int) (low : Bool) (A : Nat → Addr) (w : World) (ha : 0 ≤ a) (ha2 : a ≤ 255) (hb : 0 ≤ b) (hb2 : b ≤ 255) (hn : -9223372036854775808 ≤ n) (hn2 : n ≤ 9223372036854775807) (hS : SentsOn [1, 2, 7, 8] w A) :
    Calls Tryd.prog 3 #[.int .u8 a, .int .u8 b, .int .i64 n, .bool low] w fun e w' => e = .returned (.bool true) ∧ Below w.heap.size w w' := by
  have hF := hidden (law5_first A w (hS.on.sub (by decide)))
  have hE := hidden (fun W (h : Below w.heap.size w W) => (hS.on.sub (ks := [1, 7, 8]) (by decide)).below h (Nat.le_refl _))
  have hN := hidden (fun W => number_any n 129 W hn hn2 (by decide) (by decide))
  have n0 : 0 ≤ n % 129 := by omega
  have n1 : n % 129 < 129 := by omega
  have hoa := hidden (rep_ok (b := a) (by omega))
  have hob := hidden (rep_ok (b := b) (by omega))
  clear hS hn hn2 ha ha2 hb hb2
  generalize n % 129 = N at *
  have hup := hidden (rch_up n0 n1)
  have hlw := hidden (rch_low n0 n1)
  go_enter Tryd.func3, Tryd.ntmps3
  go_wp2_with fail
  refine hF.out.mono ?_
  rintro e w1 ⟨rfl, hw⟩
  replace hw := hidden hw
  go_wp2_with (go_at_call 9; with_reducible refine (hN.out _).mono ?_; rintro e w' ⟨rfl, rfl⟩)
  refine (lnew 3 (by decide) (by decide) hw.out).mono ?_
  rintro e w2 ⟨d, g, m, rfl, h2, _, _⟩
  replace h2 := hidden h2
  clear hw hF hN
  go_wp2_with fail
  refine (lwhole h2.out a).mono ?_
  rintro e w3 ⟨gb, rfl, h3, hr, hap, _⟩
  replace h3 := hidden h3
  replace hr := hidden hr
  replace hap := hidden hap
  clear h2
  go_wp2_with fail
  refine (lwrite h3.out (hE.out _ h3.out.low) (calm_new 3) 1 (by decide) (by decide) hap.out hoa.out hr.out).mono ?_
  rintro e w4 ⟨rfl, h4, _⟩
  replace h4 := hidden h4
  clear h3 hr hap
  go_wp2_with fail
  refine (lwhole h4.out 9).mono ?_
  rintro e w5 ⟨gb5, rfl, h5, hr5, ha5, _⟩
  replace h5 := hidden h5
  replace hr5 := hidden hr5
  replace ha5 := hidden ha5
  clear h4
  go_wp2_with fail
  refine (lwrite h5.out (hE.out _ h5.out.low) ((calm_new 3).write _ _) 2 (by decide) (by show (2 : Int) < ((3 : Nat) : Int); decide) ha5.out (rep_ok (by decide)) hr5.out).mono ?_
  rintro e w6 ⟨rfl, h6, _⟩
  replace h6 := hidden h6
  clear h5 hr5 ha5
  go_wp2_with fail
  refine (lflush h6.out (hE.out _ h6.out.low) (((calm_new 3).write _ _).write _ _)).mono ?_
  rintro e w7 ⟨rfl, h7, _⟩
  replace h7 := hidden h7
  clear h6
  go_wp2_with fail
  refine (lwhole h7.out b).mono ?_
  rintro e w8 ⟨gb8, rfl, h8, hr8, ha8, _⟩
  replace h8 := hidden h8
  replace hr8 := hidden hr8
  replace ha8 := hidden ha8
  clear h7
  go_wp2_with fail
  refine (lwrite h8.out (hE.out _ h8.out.low) (((calm_new 3).write _ _).write _ _).flush 1 (by decide) (by show (1 : Int) < ((3 : Nat) : Int); decide) ha8.out hob.out hr8.out).mono ?_
  rintro e w9 ⟨rfl, h9, _⟩
  have hpk := hidden (fun p => one_pick h9 p 3)
  clear h8 hr8 ha8 h9
  have n2 : -9223372036854775808 ≤ 2 + 3 * N - 1935 := by omega
  cases low
  · go_wp2_with fail
    refine (lcrash (hpk.out (2 + 3 * N)).1 (hpk.out (2 + 3 * N)).2.1 (hpk.out (2 + 3 * N)).2.2 (fun q hq => by rw [List.mem_singleton.1 hq]; omega)).mono ?_
    rintro e w10 ⟨rfl, h10, _⟩
    replace h10 := hidden h10
    clear hpk
    go_wp2_with fail
    refine (lread h10.out (hE.out _ h10.out.low) (calm_crash _ _) 1 (by show 1 < 3; decide)).mono ?_
    rintro e w11 ⟨gb11, rfl, h11, hr11, _⟩
    replace hr11 := hidden (show Reads .u8 w11 (.slice (some ⟨gb11, 0, none⟩) 128 128) (mix (2 + 3 * N) (rep b) (rep a)) from hr11)
    replace h11 := hidden h11
    clear h10
    go_wp2_with fail
    refine (lread h11.out (hE.out _ h11.out.low) (calm_crash _ _) 2 (by show 2 < 3; decide)).mono ?_
    rintro e w12 ⟨gb12, rfl, h12, hr12, hb12⟩
    replace hr12 := hidden (show Reads .u8 w12 (.slice (some ⟨gb12, 0, none⟩) 128 128) (rep 9) from hr12)
    replace hr11 := hidden (hr11.out.below hb12 (Nat.le_refl _))
    replace h12 := hidden h12
    clear h11 hb12
    go_wp2_with fail
    refine (lwhole h12.out 9).mono ?_
    rintro e w13 ⟨gb13, rfl, h13, hr13, _, hb13⟩
    have hsb := hidden (sameBytes_any _ _ _ _ w13 (hr12.out.below hb13 (Nat.le_refl _)) hr13 (by rw [rep_len]; decide))
    replace hr11 := hidden (hr11.out.below hb13 (Nat.le_refl _))
    have h13' := hidden h13
    clear h12 hr12 hr13 hb13 h13
    go_wp2_with fail
    refine hsb.out.mono ?_
    rintro e w14 ⟨rfl, q, rfl⟩
    have hr14 := hidden (reads_drawn hr11.out q)
    have h14 := hidden (h13'.out.drawn q)
    simp only [decide_true]
    clear hsb h13' hr11
    generalize w13.drewN q = W at hr14 h14 ⊢
    have hmx := hidden (mix_at a b (2 + 3 * N))
    have hrc := hup.out
    go_wp2_with fail
    go_loopw [17] (fun i wr => TearRel W i wr) (fun i _ => 128 - (RowKit.intOf i).toNat)
    case atStart => exact ⟨0, rfl, by omega, rfl⟩
    case round =>
      obtain ⟨k, rfl, hk, rfl⟩ := hrel
      by_cases hlt : k < 128
      · have hc := reads_at hr14.out k hlt
        rw [hmx.out k hlt, hrc] at hc
        have hki : (k : Int) < 128 := by omega
        by_cases hkn : (k : Int) < N
        · rw [if_pos hkn] at hc
          go_wp2
          go_roundw
          case rel => exact ⟨k + 1, by go_num, by omega, rfl⟩
          case measure => simp [RowKit.intOf]; omega
        · rw [if_neg hkn] at hc
          go_wp2
          go_roundw
          case rel => exact ⟨k + 1, by go_num, by omega, rfl⟩
          case measure => simp [RowKit.intOf]; omega
      · obtain rfl : k = 128 := by omega
        have hP := hidden (pending_any h14.out.at_)
        go_wp2_with (go_at_call 17; refine hP.out.mono ?_; rintro e w' ⟨rfl, rfl⟩)
        go_ret
        exact ⟨rfl, h14.out.low⟩
  · go_wp2_with fail
    refine (lcrash (hpk.out (2 + 3 * N - 1935)).1 (hpk.out (2 + 3 * N - 1935)).2.1 (hpk.out (2 + 3 * N - 1935)).2.2 (fun q hq => by rw [List.mem_singleton.1 hq]; omega)).mono ?_
    rintro e w10 ⟨rfl, h10, _⟩
    replace h10 := hidden h10
    clear hpk
    go_wp2_with fail
    refine (lread h10.out (hE.out _ h10.out.low) (calm_crash _ _) 1 (by show 1 < 3; decide)).mono ?_
    rintro e w11 ⟨gb11, rfl, h11, hr11, _⟩
    replace hr11 := hidden (show Reads .u8 w11 (.slice (some ⟨gb11, 0, none⟩) 128 128) (mix (2 + 3 * N - 1935) (rep b) (rep a)) from hr11)
    replace h11 := hidden h11
    clear h10
    go_wp2_with fail
    refine (lread h11.out (hE.out _ h11.out.low) (calm_crash _ _) 2 (by show 2 < 3; decide)).mono ?_
    rintro e w12 ⟨gb12, rfl, h12, hr12, hb12⟩
    replace hr12 := hidden (show Reads .u8 w12 (.slice (some ⟨gb12, 0, none⟩) 128 128) (rep 9) from hr12)
    replace hr11 := hidden (hr11.out.below hb12 (Nat.le_refl _))
    replace h12 := hidden h12
    clear h11 hb12
    go_wp2_with fail
    refine (lwhole h12.out 9).mono ?_
    rintro e w13 ⟨gb13, rfl, h13, hr13, _, hb13⟩
    have hsb := hidden (sameBytes_any _ _ _ _ w13 (hr12.out.below hb13 (Nat.le_refl _)) hr13 (by rw [rep_len]; decide))
    replace hr11 := hidden (hr11.out.below hb13 (Nat.le_refl _))
    have h13' := hidden h13
    clear h12 hr12 hr13 hb13 h13
    go_wp2_with fail
    refine hsb.out.mono ?_
    rintro e w14 ⟨rfl, q, rfl⟩
    have hr14 := hidden (reads_drawn hr11.out q)
    have h14 := hidden (h13'.out.drawn q)
    simp only [decide_true]
    clear hsb h13' hr11
    generalize w13.drewN q = W at hr14 h14 ⊢
    have hmx := hidden (mix_at a b (2 + 3 * N - 1935))
    have hrc := hlw.out
    go_wp2_with fail
    go_loopw [17] (fun i wr => TearRel W i wr) (fun i _ => 128 - (RowKit.intOf i).toNat)
    case atStart => exact ⟨0, rfl, by omega, rfl⟩
    case round =>
      obtain ⟨k, rfl, hk, rfl⟩ := hrel
      by_cases hlt : k < 128
      · have hc := reads_at hr14.out k hlt
        rw [hmx.out k hlt, hrc] at hc
        have hki : (k : Int) < 128 := by omega
        by_cases hkn : (k : Int) < N
        · rw [if_pos hkn] at hc
          go_wp2
          go_roundw
          case rel => exact ⟨k + 1, by go_num, by omega, rfl⟩
          case measure => simp [RowKit.intOf]; omega
        · rw [if_neg hkn] at hc
          go_wp2
          go_roundw
          case rel => exact ⟨k + 1, by go_num, by omega, rfl⟩
          case measure => simp [RowKit.intOf]; omega
      · obtain rfl : k = 128 := by omega
        have hP := hidden (pending_any h14.out.at_)
        go_wp2_with (go_at_call 17; refine hP.out.mono ?_; rintro e w' ⟨rfl, rfl⟩)
        go_ret
        exact ⟨rfl, h14.out.low⟩
end Go.Proofs.YtnafnlkpeeoikaaDoor
