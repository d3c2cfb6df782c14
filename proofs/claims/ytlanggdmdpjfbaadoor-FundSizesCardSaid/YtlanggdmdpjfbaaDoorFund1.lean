/-
  A number within its bounds (the code's and the document's); what new has above old.
-/
import Derived.Test.YtlanggdmdpjfbaaDoorFundMath
import Derived.Test.YtlanggdmdpjfbaaDoorShare5
import Derived.Test.YtlanggdmdpjfbaaDoorShareRef
import Derived.BigQuiet
namespace Go.Proofs.YtlanggdmdpjfbaaDoor
open Go Go.RowKit
set_option linter.unusedVariables false

theorem isAmount_any24 (x : Int) (w : World) : Calls Tryd.prog 28 #[.int .i64 x] w fun e w' => e = .returned (.bool (decide (am23 x))) ∧ w = w' := by
  rcases am23_ways x with ⟨t1, q⟩ | ⟨t1, t2, q⟩ | ⟨t1, t2, q⟩
  all_goals
    replace q := hidden q
    go_enter Tryd.func28, Tryd.ntmps28
    go_wp2
    go_ret
    exact ⟨ret_bool q.out.symm, rfl⟩
theorem cl_parts {n f c v : Int} (h : f ≤ c) (hv : v = (if n < f then f else if c < n then c else n)) : (n < f ∧ ¬ c < f ∧ v = f) ∨ (¬ n < f ∧ c < n ∧ v = c) ∨ (¬ n < f ∧ ¬ c < n ∧ v = n) := by
  by_cases h1 : n < f
  · rw [if_pos h1] at hv; exact .inl ⟨h1, by omega, hv⟩
  · rw [if_neg h1] at hv
    by_cases h2 : c < n
    · rw [if_pos h2] at hv; exact .inr (.inl ⟨h1, h2, hv⟩)
    · rw [if_neg h2] at hv; exact .inr (.inr ⟨h1, h2, hv⟩)
set_option maxHeartbeats 3200000 in
theorem clamp_any24 (A : Nat → Addr) (n f c : Int) (w : World) (hE : ErrsOn [2] w A) :
    Calls Tryd.prog 12 #[.int .i64 n, .int .i64 f, .int .i64 c] w fun e w' => e = .returned (.tuple #[.int .i64 (clV n f c), errOf A (clC n f c)]) ∧ ∃ k, w' = w.drewN k := by
  have c2 : w.cell? ⟨0, 0, none⟩ = some (errAt (A 2)) := hE 2 (by simp)
  have hQ := hidden (fun n => isAmount_any24 n w)
  rcases cl_ways n f c with ⟨t1, q1, q2⟩ | ⟨t1, t2, q1, q2⟩ | ⟨t1, t2, t3, q1, q2⟩ | ⟨t1, t2, t3, t4, q1, q2⟩ | ⟨t1, t2, t3, t4, q1, q2⟩
  iterate 4
    · have hr1 := hidden (show (0 : Int) = clV n f c from q2.symm)
      have hr2 := hidden (show errAt (A 2) = errOf A (clC n f c) by rw [q1]; rfl)
      clear q1 q2
      go_enter Tryd.func12, Tryd.ntmps12
      go_wp2_with (go_at_call 28; refine (hQ.out _).mono ?_; rintro e w' ⟨rfl, rfl⟩)
      go_quiet (fail)
      go_wp2
      go_ret2
      exact ⟨ret_iv hr1.out hr2.out, _, rfl⟩
  · have hr2 := hidden (show Value.nilIface = errOf A (clC n f c) by rw [q1]; rfl)
    have hcf : ¬ c < f := by omega
    rcases cl_parts t4 q2 with ⟨p1, p2, p3⟩ | ⟨p1, p2, p3⟩ | ⟨p1, p2, p3⟩
    all_goals
      replace p3 := hidden p3
      clear q1 q2 c2 t4
      go_enter Tryd.func12, Tryd.ntmps12
      go_wp2_with (go_at_call 28; refine (hQ.out _).mono ?_; rintro e w' ⟨rfl, rfl⟩)
      all_goals
        go_ret2
        first
        | exact ⟨ret_iv (by rw [p3.out]; omega) hr2.out, 0, rfl⟩
        | omega
set_option maxHeartbeats 3200000 in
theorem refClamp_any24 (n f c : Int) (w : World) :
    Calls Tryd.prog 13 #[.int .i64 n, .int .i64 f, .int .i64 c] w fun e w' => e = .returned (.tuple #[.int .i64 (clV n f c), .int .i64 (clC n f c)]) ∧ w' = w := by
  have hQ := hidden (fun n => refAmt_any23 n w)
  rcases cl_ways n f c with ⟨t1, q1, q2⟩ | ⟨t1, t2, q1, q2⟩ | ⟨t1, t2, t3, q1, q2⟩ | ⟨t1, t2, t3, t4, q1, q2⟩ | ⟨t1, t2, t3, t4, q1, q2⟩
  iterate 4
    · have hr1 := hidden (show (0 : Int) = clV n f c from q2.symm)
      have hr2 := hidden (show (103 : Int) = clC n f c from q1.symm)
      clear q1 q2
      go_enter Tryd.func13, Tryd.ntmps13
      go_wp2_with (go_at_call 24; refine (hQ.out _).mono ?_; rintro e w' ⟨rfl, rfl⟩)
      go_ret2
      exact ⟨ret_ii hr1.out hr2.out, rfl⟩
  · have hr2 := hidden (show (0 : Int) = clC n f c from q1.symm)
    have hcf : ¬ c < f := by omega
    rcases cl_parts t4 q2 with ⟨p1, p2, p3⟩ | ⟨p1, p2, p3⟩ | ⟨p1, p2, p3⟩
    all_goals
      replace p3 := hidden p3
      clear q1 q2 t4
      go_enter Tryd.func13, Tryd.ntmps13
      go_wp2_with (go_at_call 24; refine (hQ.out _).mono ?_; rintro e w' ⟨rfl, rfl⟩)
      all_goals
        go_ret2
        first
        | exact ⟨ret_ii (by rw [p3.out]; omega) hr2.out, rfl⟩
        | omega

/-! What new has above old. -/
theorem ab_ways {n f : Int} (hn : -9223372036854775808 ≤ n) (hn2 : n ≤ 9223372036854775807) (hf : -9223372036854775808 ≤ f) (hf2 : f ≤ 9223372036854775807) :
    (n ≤ f ∧ abX n f = 0) ∨ (¬ n ≤ f ∧ 0 < wrap64 (n - f) ∧ wrap64 (n - f) = abX n f) ∨ (¬ n ≤ f ∧ ¬ 0 < wrap64 (n - f) ∧ abX n f = 9223372036854775807) := by
  unfold abX wrap64
  by_cases h1 : n ≤ f
  · exact .inl ⟨h1, if_pos h1⟩
  · rw [if_neg h1]
    by_cases h2 : n - f ≤ 9223372036854775807
    · rw [if_pos h2]; exact .inr (.inl ⟨h1, by omega, by omega⟩)
    · rw [if_neg h2]; exact .inr (.inr ⟨h1, by omega, rfl⟩)
theorem above_any24 (n f : Int) (w : World) (hn : -9223372036854775808 ≤ n) (hn2 : n ≤ 9223372036854775807) (hf : -9223372036854775808 ≤ f) (hf2 : f ≤ 9223372036854775807) :
    Calls Tryd.prog 31 #[.int .i64 n, .int .i64 f] w fun e w' => e = .returned (.int .i64 (abX n f)) ∧ w' = w := by
  rcases ab_ways hn hn2 hf hf2 with ⟨h1, h2⟩ | ⟨h1, h2, h3⟩ | ⟨h1, h2, h3⟩
  · replace h2 := hidden h2
    clear hn hn2 hf hf2
    go_enter Tryd.func31, Tryd.ntmps31
    go_wp2
    go_ret
    exact ⟨ret_int h2.out.symm, rfl⟩
  · obtain ⟨d, hd⟩ : ∃ d, d = wrap64 (n - f) := ⟨_, rfl⟩
    rw [← hd] at h2 h3
    have hw : IntKind.i64.wrap (n - f) = d := by rw [IntKind.wrap_i64, hd]; unfold wrap64; omega
    replace hd := hidden hd
    replace h3 := hidden h3
    clear hn hn2 hf hf2
    go_enter Tryd.func31, Tryd.ntmps31
    go_wp2
    go_ret
    exact ⟨ret_int (by rw [← h3.out, hd.out]), rfl⟩
  · obtain ⟨d, hd⟩ : ∃ d, d = wrap64 (n - f) := ⟨_, rfl⟩
    rw [← hd] at h2
    have hw : IntKind.i64.wrap (n - f) = d := by rw [IntKind.wrap_i64, hd]; unfold wrap64; omega
    replace hd := hidden hd
    replace h3 := hidden h3
    clear hn hn2 hf hf2
    go_enter Tryd.func31, Tryd.ntmps31
    go_wp2
    go_ret
    exact ⟨ret_int h3.out.symm, rfl⟩
theorem at_any24 (v : Value) (L : List Int) (k : Nat) (w : World) (hr : Reads .i64 w v L) :
    Calls Tryd.prog 32 #[v, .int .i64 (k : Int)] w fun e w' => e = .returned (.int .i64 (wF L k)) ∧ w' = w := by
  by_cases hk : k < L.length
  · obtain ⟨a1, c1, rfl⟩ := reads_slice hr
    obtain ⟨b, o, rfl, q0⟩ := hr.cell k hk
    rw [show L.getD k 0 = wF L k from rfl] at q0
    have hkI : (k : Int) < (L.length : Int) := by omega
    generalize wF L k = x at *
    clear hr hk
    go_enter Tryd.func32, Tryd.ntmps32
    go_wp2
    go_ret
    exact ⟨rfl, rfl⟩
  · rw [wF_over (Nat.le_of_not_lt hk)]
    obtain ⟨a1, c1, rfl⟩ := reads_slice hr
    have hkI : ¬ (k : Int) < (L.length : Int) := by omega
    clear hr hk
    go_enter Tryd.func32, Tryd.ntmps32
    go_wp2
    go_ret
    exact ⟨rfl, rfl⟩
def CaAt24 (old new : List Int) (w : World) (e : Ending) (w' : World) : Prop := ∃ v', e = .returned v' ∧ Reads .i64 w' v' (cfL old new) ∧ (∀ b, v'.ownBlock = some b → w.heap.size ≤ b) ∧ Below w.heap.size w w'
def CaRel24 (old new : List Int) (N : Nat) (w0 : World) (P : Nat) (i : Value) (w : World) : Prop := ∃ k : Nat, k ≤ N ∧ i = .int .i64 (k : Int) ∧ Nu23 2 w P (upL (cfF old new) N k) ∧ Below w0.heap.size w0 w
set_option maxRecDepth 100000 in
set_option maxHeartbeats 6400000 in
theorem calls_any24 (v u : Value) (old new : List Int) (w : World) (hr : Reads .i64 w v old) (hr2 : Reads .i64 w u new) (hl : old.length ≤ 1000000) (hl2 : new.length ≤ 1000000)
    (hz : ∀ i, -9223372036854775808 ≤ wF old i ∧ wF old i ≤ 9223372036854775807) (hz2 : ∀ i, -9223372036854775808 ≤ wF new i ∧ wF new i ≤ 9223372036854775807) :
    Calls Tryd.prog 16 #[v, u] w (CaAt24 old new w) := by
  unfold CaAt24
  obtain ⟨N, hN⟩ : ∃ N, N = cfN old new := ⟨_, rfl⟩
  have hN6 : N ≤ 1000000 := by rw [hN]; unfold cfN; omega
  have hmx : max (old.length : Int) (new.length : Int) = (N : Int) := by rw [hN]; unfold cfN; omega
  have hA1 := hidden (fun k W (hW : Below w.heap.size w W) => at_any24 v old k W (hr.below hW (Nat.le_refl _)))
  have hA2 := hidden (fun k W (hW : Below w.heap.size w W) => at_any24 u new k W (hr2.below hW (Nat.le_refl _)))
  have hA3 := hidden (fun k W => above_any24 (wF new k) (wF old k) W (hz2 k).1 (hz2 k).2 (hz k).1 (hz k).2)
  have hend := hidden (show upL (cfF old new) N N = cfL old new by rw [upL_end, hN]; rfl)
  have hmk := mk_longs23 N hN6
  have hst := hidden (show CaRel24 old new N w w.heap.size (.int .i64 0) (w.alloc (.cells (Array.replicate N (.int .i64 0)) 2)) from ⟨0, Nat.zero_le _, rfl, by rw [upL_zero]; exact Nu23.new _ w N, (Below.refl w.heap.size w).alloc (Nat.le_refl _) _⟩)
  have hN6' := hidden hN6
  obtain ⟨a1, c1, rfl⟩ := reads_slice hr
  obtain ⟨a2, c2, rfl⟩ := reads_slice hr2
  clear hr hr2 hz hz2 hN hl hl2
  go_enter Tryd.func16, Tryd.ntmps16
  go_wp2_with fail
  go_loopw [15] (fun i wr => CaRel24 old new N w w.heap.size i wr) (fun i _ => N - (RowKit.intOf i).toNat)
  case atStart => exact hst.out
  case round =>
    clear hst
    obtain ⟨k, hk, rfl, hP, hb⟩ := hrel
    by_cases hlt : k < N
    · have hlI : (k : Int) < (N : Int) := by omega
      have h1 := hidden (hA1.out k wr hb)
      have h2 := hidden (hA2.out k wr hb)
      have h3 := hidden (hA3.out k wr)
      have cP := hP.cell (i := k) (by rw [upL_len]; exact hlt)
      have fP := hP.frozen k
      have hP2 := hidden (hP.set k (cfF old new k))
      rw [upL_set] at hP2
      have hb2 := hidden (hb.setCell (p := ⟨w.heap.size, k, none⟩) (Nat.le_refl _) (.int .i64 (cfF old new k)))
      unfold cfF at hP2 hb2
      generalize (upL (cfF old new) N k).getD k 0 = z at *
      clear hA1 hA2 hA3 hP hb hmk hmx hend
      generalize abX (wF new k) (wF old k) = y at *
      generalize wF new k = x1 at *
      generalize wF old k = x2 at *
      go_wp2_with fail
      refine h2.out.mono ?_
      rintro e w1 ⟨rfl, rfl⟩
      clear h2
      go_wp2_with fail
      refine h1.out.mono ?_
      rintro e w1 ⟨rfl, rfl⟩
      clear h1
      go_wp2_with fail
      refine h3.out.mono ?_
      rintro e w1 ⟨rfl, rfl⟩
      clear h3
      go_wp2
      go_roundw
      case rel => exact ⟨k + 1, hlt, by go_num, hP2.out, hb2.out⟩
      case measure => simp [RowKit.intOf]; omega
    · obtain rfl : k = N := by omega
      have hend2 := hidden (show Reads .i64 wr (.slice (some ⟨w.heap.size, 0, none⟩) k k) (cfL old new) from by rw [← hend.out]; exact hP.reads (upL_len _ _ _) hN6'.out)
      replace hb := hidden hb
      clear hP hA1 hA2 hA3 hmk hmx hend
      go_wp2
      go_ret
      exact ⟨.slice (some ⟨w.heap.size, 0, none⟩) k k, rfl, hend2.out, own_at23 _ _ _, hb.out⟩
end Go.Proofs.YtlanggdmdpjfbaaDoor
