import Derived.Test.YtnafnlkpeeoikaaDoorDiskLaw
import Derived.Test.YtnafnlkpeeoikaaDoorNumber
namespace Go.Proofs.YtnafnlkpeeoikaaDoor
open Go.RowKit
set_option linter.unusedVariables false

def LWriteAny (A : Nat → Addr) (w0 W : World) (d g m : Nat) (D : Dk) (i : Int) (xs : List Int) (e : Ending) (W' : World) : Prop := e = .returned (errOf A (wrC D i xs.length)) ∧ LawAt w0 W' d g m (wrD D i xs) ∧ Trd (dskB d g m) W W'
theorem lwriteAny {A : Nat → Addr} {w0 W : World} {d g m : Nat} {D : Dk} (h : LawAt w0 W d g m D) (hE : ErrsOn [1, 7, 8] W A) (i : Int) {v : Value} {xs : List Int} (hg : ∀ b, v.ownBlock = some b → ¬ dskB d g m b) (hx : ∀ x ∈ xs, 0 ≤ x ∧ x < 256) (hr : Reads .u8 W v xs) :
    Calls Tryd.prog 11 #[.pointer (some ⟨d, 0, none⟩), .int .i64 i, v] W (LWriteAny A w0 W d g m D i xs) := by
  refine (write_any A h.at_ i hE hr hg hx).mono ?_
  rintro e W' ⟨rfl, hd, ht⟩
  exact ⟨rfl, h.trd hd ht, ht⟩
theorem new5 : ((newDk 5).n : Int) = 5 := rfl
theorem sh_full {i : Int} (h : ¬ (0 ≤ i ∧ i < 5)) (l : Nat) : wrC (newDk 5) i l = 108 := by
  rw [wrC, (calm_new 5).power, if_neg (by decide), new5, if_neg h]
theorem sh_shape {i : Int} (h : 0 ≤ i ∧ i < 5) {l : Nat} (hl : l ≠ 128) : wrC (newDk 5) i l = 102 := by
  rw [wrC, (calm_new 5).power, if_neg (by decide), new5, if_pos h, if_neg hl]
theorem sh_fine {i : Int} (h : 0 ≤ i ∧ i < 5) : wrC (newDk 5) i 128 = 0 := by
  rw [wrC, (calm_new 5).power, if_neg (by decide), new5, if_pos h, if_pos rfl]
theorem sh_same {i : Int} {xs : List Int} (h : wrC (newDk 5) i xs.length ≠ 0) : wrD (newDk 5) i xs = newDk 5 := by
  rw [wrD, if_neg h, (calm_new 5).power]
theorem sh_put {i : Int} {xs : List Int} (h : wrC (newDk 5) i xs.length = 0) : (wrD (newDk 5) i xs).ps.length = 1 ∧ (wrD (newDk 5) i xs).calls = 1 := by
  rw [wrD, if_pos h, (calm_new 5).power]
  exact ⟨rfl, by show wrap64 (0 + 1) = 1; exact w64_in _ (by omega)⟩

set_option maxRecDepth 100000 in
set_option maxHeartbeats 4000000 in
theorem walk_diskShapes (i n : Int) (A : Nat → Addr) (w : World) (hi : -9223372036854775808 ≤ i) (hi2 : i ≤ 9223372036854775807) (hn : -9223372036854775808 ≤ n) (hn2 : n ≤ 9223372036854775807) (hS : Sents w A) :
    Calls Tryd.prog 7 #[.int .i64 i, .int .i64 n] w fun e w' => e = .returned (.bool true) ∧ Below w.heap.size w w' := by
  have hF := hidden (law5_first A w (hS.on _ (by decide)))
  have hE := hidden (fun W (h : Below w.heap.size w W) => (hS.on [1, 7, 8] (by decide)).below h (Nat.le_refl _))
  have hI := hidden (fun c (hc : codeOk c) W (h : Below w.heap.size w W) => is_any A c c W (hS.below h (Nat.le_refl _)) hc)
  have hN := hidden (fun W => number_any n 260 W hn hn2 (by decide) (by decide))
  obtain ⟨q, hq⟩ : ∃ q : Nat, n % 260 = (q : Int) := ⟨(n % 260).toNat, by omega⟩
  have hq2 : q < 260 := by omega
  rw [hq] at hN
  clear hS hq hn hn2
  obtain ⟨i0, hi1, hz0, hz1, hz2⟩ := info_parts (show (Tryd.prog.info? 5).map (fun i => (i.zero, i.size, i.bytes)) = some (some (.int .u8 0), 1, 1) by kernel_rfl)
  have hby := hidden (show i0.bytes * q ≤ 281474976710656 by rw [hz2]; omega)
  have hml := hidden (show q ≤ maxLen by unfold maxLen; omega)
  have hq3 := hidden hq2
  have hqi : (0 : Int) ≤ (q : Int) := by omega
  go_enter Tryd.func7, Tryd.ntmps7
  go_wp2_with fail
  refine hF.out.mono ?_
  rintro e w1 ⟨rfl, hw⟩
  replace hw := hidden hw
  go_wp2_with (go_at_call 9; with_reducible refine (hN.out _).mono ?_; rintro e w' ⟨rfl, rfl⟩)
  refine (lnew 5 (by decide) (by decide) hw.out).mono ?_
  rintro e w2 ⟨d, g, m, rfl, h2, _, _⟩
  replace h2 := hidden h2
  go_wp2_with (at_make; refine wpList_make_full _ rfl _ _ 30 rfl w2.heap.size 5 i0 (.int .u8 0) 1 Tryd.underlying30 hi1 hz0 hz1 .i64 .i64 q q q rfl rfl rfl rfl hby.out hml.out (Nat.le_refl _) ?_; intro w3 hown hgrow; rw [Nat.mul_one] at hown; have hst := hidden (whole_start (n := q) hgrow hown); clear hgrow hown)
  have hr := hidden (reads_block hst.out.1 (n := q) (by simp) (by have := hq3.out; omega))
  have h3 := hidden (h2.out.below hst.out.2)
  have ha := hidden (fresh_apart (n := q) (c := q) h2.out (Nat.le_refl w2.heap.size))
  have hlen := hidden (show (List.replicate q (0 : Int)).length = q by simp)
  have hx := hidden (show ∀ x ∈ List.replicate q (0 : Int), 0 ≤ x ∧ x < 256 from fun x hx => by rw [(List.mem_replicate.1 hx).2]; decide)
  generalize List.replicate q (0 : Int) = xs at hr hlen hx
  generalize w2.heap.size = gb at hr ha ⊢
  clear h2 hst hby hml hF hN hq3 hi1 hz0 hz1 hz2 i0
  go_wp2_with fail
  refine (lwriteAny h3.out (hE.out _ h3.out.low) i ha.out hx.out hr.out).mono ?_
  rintro e w4 ⟨rfl, h4, _⟩
  replace h4 := hidden h4
  clear h3 ha hx hr hE
  by_cases hin : 0 ≤ i ∧ i < 5
  · by_cases hl : q = 128
    · have e0 : wrC (newDk 5) i xs.length = 0 := by rw [hlen.out, hl]; exact sh_fine hin
      obtain ⟨p1, p2⟩ := sh_put e0
      rw [e0]
      have hP := hidden (pending_any h4.out.at_)
      have hC := hidden (calls_any h4.out.at_)
      rw [p1] at hP
      rw [p2] at hC
      have hlow := hidden h4.out.low
      obtain ⟨i1, i2⟩ := hin
      have i3 := decide_eq_true i2
      have hq1 : (q : Int) = 128 := by omega
      have hnl := hidden (errOf_fine A)
      rw [hnl.out]
      clear h4 p1 p2 e0 hlen hI hnl
      go_wp2_with (first
        | (go_at_call 17; refine hP.out.mono ?_; rintro e w' ⟨rfl, rfl⟩)
        | (go_at_call 22; refine hC.out.mono ?_; rintro e w' ⟨rfl, rfl⟩))
      go_ret
      exact ⟨rfl, hlow.out⟩
    · have e0 : wrC (newDk 5) i xs.length = 102 := by rw [hlen.out]; exact sh_shape hin hl
      rw [sh_same (by rw [e0]; decide)] at h4
      rw [e0]
      have hP := hidden (fun W (h : LawAt w W d g m (newDk 5)) => pending_any h.at_)
      have hC := hidden (fun W (h : LawAt w W d g m (newDk 5)) => calls_any h.at_)
      have hI' := hidden (hI.out 102 (by unfold codeOk; decide))
      obtain ⟨i1, i2⟩ := hin
      have i3 := decide_eq_true i2
      have hq1 : ¬ (q : Int) = 128 := by omega
      clear e0 hlen hI
      generalize hev : errOf A 102 = ev at *
      clear hev
      go_wp2_with (first
        | (go_at_call 20; refine (hI'.out _ h4.out.low).mono ?_; rintro e w5 ⟨rfl, hb⟩; have h5 := hidden (h4.out.below hb); clear hb)
        | (go_at_call 17; refine (hP.out _ h5.out).mono ?_; rintro e w' ⟨rfl, rfl⟩)
        | (go_at_call 22; refine (hC.out _ h5.out).mono ?_; rintro e w' ⟨rfl, rfl⟩))
      go_ret
      exact ⟨rfl, h5.out.low⟩
  · have e0 : wrC (newDk 5) i xs.length = 108 := sh_full hin _
    rw [sh_same (by rw [e0]; decide)] at h4
    rw [e0]
    have hP := hidden (fun W (h : LawAt w W d g m (newDk 5)) => pending_any h.at_)
    have hC := hidden (fun W (h : LawAt w W d g m (newDk 5)) => calls_any h.at_)
    have hI' := hidden (hI.out 108 (by unfold codeOk; decide))
    clear e0 hlen hI
    generalize hev : errOf A 108 = ev at *
    clear hev
    by_cases i1 : 0 ≤ i
    · have i2 : ¬ i < 5 := fun h => hin ⟨i1, h⟩
      have i3 := decide_eq_false i2
      clear hin
      go_wp2_with (first
        | (go_at_call 20; refine (hI'.out _ h4.out.low).mono ?_; rintro e w5 ⟨rfl, hb⟩; have h5 := hidden (h4.out.below hb); clear hb)
        | (go_at_call 17; refine (hP.out _ h5.out).mono ?_; rintro e w' ⟨rfl, rfl⟩)
        | (go_at_call 22; refine (hC.out _ h5.out).mono ?_; rintro e w' ⟨rfl, rfl⟩))
      go_ret
      exact ⟨rfl, h5.out.low⟩
    · have i2 : decide (0 ≤ i) = false := decide_eq_false i1
      clear hin
      go_wp2_with (first
        | (go_at_call 20; refine (hI'.out _ h4.out.low).mono ?_; rintro e w5 ⟨rfl, hb⟩; have h5 := hidden (h4.out.below hb); clear hb)
        | (go_at_call 17; refine (hP.out _ h5.out).mono ?_; rintro e w' ⟨rfl, rfl⟩)
        | (go_at_call 22; refine (hC.out _ h5.out).mono ?_; rintro e w' ⟨rfl, rfl⟩))
      go_ret
      exact ⟨rfl, h5.out.low⟩
end Go.Proofs.YtnafnlkpeeoikaaDoor
