import Derived.Test.YtghkmagofadkfaaDoorCapsLaw2
import Derived.Test.YtghkmagofadkfaaDoorRowPut
import Derived.Test.YtghkmagofadkfaaDoorLaidOn
namespace Go.Proofs.YtghkmagofadkfaaDoor
open Go.RowKit
set_option linter.unusedVariables false

abbrev ovX (i : Int) : Ln := ⟨2, 1 + i % 2, i, 1000000000000000⟩
def ovL (k : Nat) : List Ln := (List.range k).map fun (i : Nat) => ovX (i : Int)
theorem ovL_len (k : Nat) : (ovL k).length = k := by simp [ovL]
theorem ovL_snoc (k : Nat) : ovL (k + 1) = ovL k ++ [ovX (k : Int)] := by simp [ovL, List.range_succ]
theorem ovL_ok {k : Nat} (h : k ≤ 7) : ∀ x ∈ ovL k, lnOk x := fun x hx => by
  obtain ⟨i, hi, rfl⟩ := List.mem_map.1 hx
  have := List.mem_range.1 hi
  unfold lnOk
  simp only
  omega
theorem ovL_t3 (k : Nat) : t3 (ovL k) 2 = (k : Int) * 1000000000000000 := by
  have happ : ∀ (a b : List Ln) (c : Int), t3 (a ++ b) c = t3 a c + t3 b c := fun a b c => by
    induction a with
    | nil => simp [t3]
    | cons x a ih => simp only [List.cons_append, t3, ih]; omega
  induction k with
  | zero => simp [ovL, t3]
  | succ k ih =>
    rw [ovL_snoc, happ, ih]
    simp only [t3]
    rw [if_pos trivial]
    omega
def ovT (x : Int) : CTab := setCT noC (1, 2) x
theorem ovT_ca (x : Int) : CaT (ovT x) := noC_ca.set _ _
theorem ovT_get (x : Int) (s : LimT) (h : s ≠ (1, 2)) : getC (ovT x) s = 0 := by
  unfold ovT
  rw [getC_set, if_neg (fun q => h q.2.2), getC_no]
theorem ov_over (x : Int) {k : Nat} (h2 : 2 ≤ k) (h : k ≤ 7) : badL (ovL k) = none ∧ ¬ fits (ovT x) (ovL k) := by
  refine ⟨badL_fine (ovL_ok h), fun hf => ?_⟩
  have h1 := (hf.1 2 (by omega) (by omega)).2
  rw [s3_free (ovL_ok h) (fun i => ovT_get x _ (by simp)) (fun i => ovT_get x _ (by simp)), ovL_t3] at h1
  omega
theorem ovL_at {k at_ : Nat} (h : at_ < k) : (ovL k).getD at_ lnZ = ovX (at_ : Int) := by
  rw [List.getD_eq_getElem?_getD]
  simp [ovL, h]
abbrev ovY (i : Int) : Ln := ⟨2, 1 + i % 2, 33, 1000000000000000⟩
theorem ov_bad {k at_ : Nat} (h : k ≤ 7) (ha : at_ < k) : badL ((ovL k).set at_ (ovY (at_ : Int))) = some at_ := by
  refine badL_first (by rw [List.length_set, ovL_len]; exact ha) (fun j hj => ?_) ?_
  · rw [List.getD_eq_getElem?_getD, List.getElem?_set_ne (by omega), ← List.getD_eq_getElem?_getD, ovL_at (by omega)]
    unfold lnOk
    simp only
    omega
  · rw [List.getD_eq_getElem?_getD, List.getElem?_set_self (by rw [ovL_len]; exact ha)]
    show ¬ lnOk (ovY (at_ : Int))
    unfold lnOk
    simp only
    omega
abbrev ovZ : Ln := ⟨3, 1, 0, 1000000000000000⟩
theorem ov_one (x : Int) : (∀ q ∈ [ovZ], lnOk q) ∧ totL [ovZ] ≤ 1000000000000000 ∧ s4 (ovT x) [ovZ] = 1000000000000000 := by
  have h1 : ∀ q ∈ [ovZ], lnOk q := fun q hq => by
    obtain rfl : q = ovZ := by simpa using hq
    unfold lnOk; simp only; omega
  refine ⟨h1, by simp only [totL]; omega, ?_⟩
  rw [s4_one (ovT_ca x) (h1 _ (by simp)), ovT_get x _ (by simp), ovT_get x _ (by simp), ovT_get x _ (by simp), capN_free, capN_free, capN_free]
def OvRel (B n g : Nat) (T : CTab) (w0 : World) (v i : Value) (w : World) : Prop := ∃ k : Nat, k ≤ n ∧ i = .int .i64 (k : Int) ∧ OwnLn B w v (ovL k) ∧ CpAt w B g 1 T ∧ Below w0.heap.size w0 w
set_option maxRecDepth 100000 in
set_option maxHeartbeats 6400000 in
theorem walk_capsOver (n a x : Int) (A : Nat → Addr) (w : World) (n0 : -9223372036854775808 ≤ n) (n1 : n ≤ 9223372036854775807) (a0 : -9223372036854775808 ≤ a) (a1 : a ≤ 9223372036854775807) (x0 : -9223372036854775808 ≤ x) (x1 : x ≤ 9223372036854775807) (hS : Sents w A) :
    Calls Tryd.prog 6 #[.int .i64 n, .int .i64 a, .int .i64 x] w fun r w' => r = .returned (.bool true) ∧ Below w.heap.size w w' := by
  have hE := hidden (hS.on [2, 3] (by decide))
  have hF := hidden (law16_first A w hE.out)
  have hn := hidden (fun W (h : Below w.heap.size w W) => lnew16 h)
  have hSW := hidden (fun W (h : Below w.heap.size w W) => hS.below h (Nat.le_refl _))
  have nN := hidden (fun W => number_any n 6 W n0 n1 (by decide) (by decide))
  have hq : 0 ≤ n % 6 ∧ n % 6 ≤ 5 := by omega
  obtain ⟨N, hN⟩ : ∃ N : Nat, n % 6 + 2 = (N : Int) := ⟨(n % 6 + 2).toNat, by omega⟩
  have hN2 : 2 ≤ N := by omega
  have hN7 : N ≤ 7 := by omega
  have nA := hidden (fun W => number_any a (N : Int) W a0 a1 (by omega) (by omega))
  obtain ⟨K, hK⟩ : ∃ K : Nat, a % (N : Int) = (K : Int) := ⟨(a % (N : Int)).toNat, by have := Int.emod_nonneg a (show (N : Int) ≠ 0 by omega); omega⟩
  have hKN : K < N := by have := Int.emod_lt_of_pos a (show 0 < (N : Int) by omega); omega
  rw [hK] at nA
  clear hS x0 x1 a0 a1 n0 n1
  go_enter Tryd.func6, Tryd.ntmps6
  go_wp2_with fail
  refine hF.out.mono ?_
  rintro r w1 ⟨rfl, hb⟩
  obtain ⟨hL1, hb1⟩ := hn.out _ hb
  replace hL1 := hidden hL1
  replace hb1 := hidden hb1
  clear hb hF hn
  go_wp2_with fail
  (with_reducible refine (nN.out _).mono ?_)
  rintro r w2 ⟨rfl, rfl⟩
  go_wp2_with fail
  (with_reducible refine (nA.out _).mono ?_)
  rintro r w2 ⟨rfl, rfl⟩
  clear nN nA
  go_wp2_with fail
  (with_reducible refine (lset16 hb1.out hL1.out (by decide) hE.out (1, 2) x).mono ?_)
  rintro r w2 ⟨rfl, hL2, hb2, _⟩
  rw [show setCT noC (1, 2) x = ovT x from rfl] at hL2
  replace hL2 := hidden hL2
  replace hb2 := hidden hb2
  clear hL1 hb1
  go_wp2_with fail
  go_loopw [9, 10] (fun v i wr => OvRel w.heap.size N w1.heap.size (ovT x) w v i wr) (fun _ i _ => N - (RowKit.intOf i).toNat)
  case atStart => exact ⟨0, Nat.zero_le _, rfl, OwnR.nil _ _ _, hL2.out, hb2.out⟩
  case round =>
    clear hL2 hb2
    obtain ⟨k, hk, rfl, hown, hL, hb⟩ := hrel
    by_cases hlt : k < N
    · have hlI : (k : Int) < (N : Int) := by omega
      have hlk := hidden (show (ovL k).length ≤ 1000000 by rw [ovL_len]; omega)
      have hBr := hidden hb.size
      replace hown := hidden hown
      replace hL := hidden hL
      replace hb := hidden hb
      go_wp2_with (at_builtin; refine wpList_appR1K rfl _ _ 23 rfl lnV_len lnV_one (by decide) 58 Tryd.underlying23 infoLn rfl (by decide) w.heap.size _ (ovL k) rfl hown.out (ovX (k : Int)) _ rfl _ rfl (by simp) hlk.out hBr.out ?_)
      intro v2 w4 hown2 hb4 ht4
      replace hown2 := hidden hown2
      have hL4 := hidden (hL.out.own hown.out ht4)
      clear ht4
      replace hb4 := hidden (hb.out.trans hb4)
      go_wp2
      go_roundw
      case rel => exact ⟨k + 1, hlt, by go_num, by rw [ovL_snoc]; exact hown2.out, hL4.out, hb4.out⟩
      case measure => simp [RowKit.intOf]; omega
    · obtain rfl : k = N := by omega
      rcases hown.2 with ⟨_, hz⟩ | ⟨gb, cap, cur, e, hgb, hgr, hnc, hcm, _, _⟩
      · rw [ovL_len] at hz; omega
      · rw [ovL_len] at e hnc
        subst e
        have hov := hidden (ov_over x hN2 hN7)
        have hbd := hidden (ov_bad hN7 hKN)
        have hgb' := hidden hgb
        have hS1 := hidden (lsumA16 (T := ovT x) hb hL hE.out (hown.row lnV_len) (by rw [ovL_len]; omega))
        have hgbl := (Array.getElem?_eq_some_iff.1 hgr).1
        replace hown := hidden hown
        replace hL := hidden hL
        replace hb := hidden hb
        replace hgr := hidden hgr
        clear hgb
        go_wp2_with fail
        (with_reducible refine hS1.out.mono ?_)
        rintro r w5 ⟨hs5, hL5, hb5, hb5'⟩
        have er : r = .returned (.tuple #[.int .i64 0, errAt (A 3)]) := by
          obtain ⟨e1, e2⟩ := su_over hov.out.1 hov.out.2
          rcases hs5.1 with ⟨k', ga, q, _⟩ | ⟨_, q⟩
          · rw [hov.out.1] at q; cases q
          · rw [q, e1, e2]; rfl
        subst er
        have hr5 := (hown.out.row lnV_len).below lnV_len hb5' (Nat.le_refl _)
        have hgr5 := (hb5'.block _ hgbl).trans hgr.out
        obtain ⟨b', o', e', _, _, c2, _⟩ := rowL_at hr5 K hKN
        simp only [Option.some.injEq, Addr.mk.injEq, and_true] at e'
        obtain ⟨rfl, rfl⟩ := e'
        rw [Nat.zero_add] at c2
        have f2 : w5.frozen? ⟨gb, K * 4 + 2, none⟩ = false := by simp [World.frozen?, hgr5]
        have hr6 := row_put lnV_len lnZ hr5 K hKN 2 (by decide) (.int .i64 33) (ovY (K : Int)) (by rw [ovL_at hKN]; rfl)
        rw [Nat.zero_add] at hr6
        have hL6 := hL5.trd (Trd.setCell (S := (· = gb)) w5 ⟨gb, K * 4 + 2, none⟩ (.int .i64 33) rfl) (ov_other hL5 hgr5)
        have hb6 := (show Below w.heap.size w (w5.setCell ⟨gb, K * 4 + 2, none⟩ (.int .i64 33)) from hb5.setCell hgb'.out _)
        have hS2 := hidden (lsumA16 (T := ovT x) hb6 hL6 hE.out hr6 (by rw [List.length_set, ovL_len]; omega))
        clear hS1 hs5 hL5 hb5 hb5' hr5 hgr5 hr6 hL6 hb6 hown hL hb hgr
        go_wp2_with fail
        (with_reducible refine hS2.out.mono ?_)
        rintro r w7 ⟨hs7, hL7, hb7, _⟩
        obtain ⟨ga, er, hat⟩ : ∃ ga, r = .returned (.tuple #[.int .i64 0, .iface 72 (.pointer (some ⟨ga, 0, none⟩))]) ∧ AtIn w7 ga (K : Int) (A 2) := by
          rcases hs7.1 with ⟨k', ga, q, q2, q3⟩ | ⟨q, _⟩
          · rw [hbd.out] at q
            obtain rfl := Option.some.inj q
            exact ⟨ga, q2, q3⟩
          · rw [hbd.out] at q; cases q
        subst er
        obtain ⟨o1, o2, o3⟩ := ov_one x
        have hS3 := lsumN16 hb7 hL7 hE.out #[.int .i64 3, .int .i64 1, .int .i64 0, .int .i64 1000000000000000] [ovZ] 1 rfl rfl (by decide) o1 o2
        rw [o3] at hS3
        replace hS3 := hidden hS3
        replace hat := hidden hat
        have hatl := hidden ((Array.getElem?_eq_some_iff.1 (show _ = _ from hat.out)).1)
        clear hS2 hs7 hL7 hb7 o1 o2 o3 c2 f2
        go_wp2_with fail
        (with_reducible refine hS3.out.mono ?_)
        rintro r w8 ⟨rfl, _, hb8, hb8'⟩
        have hat8 := hidden (fun W (h : Below w8.heap.size w8 W) => show AtIn W ga (K : Int) (A 2) from (((h.block _ (Nat.lt_of_lt_of_le hatl.out hb8'.size)).trans (hb8'.block _ hatl.out)).trans hat.out))
        replace hb8 := hidden hb8
        clear hS3 hat hb8'
        go_wp2_with fail
        (with_reducible refine (fault_bare 104 _).mono ?_)
        rintro r w9 ⟨rfl, hb9⟩
        have hs9 := hidden (same_self (errAt (A 3)) 104 0 false w9 (faultIs_of A 104 w9 (hSW.out _ (hb8.out.trans (hb9.mono hb8.out.size))) (.inr (by decide))))
        replace hb9 := hidden hb9
        go_wp2_with fail
        (with_reducible refine hs9.out.mono ?_)
        rintro r w10 ⟨rfl, hb10⟩
        replace hb10 := hidden (hb9.out.trans (hb10.mono hb9.out.size))
        clear hs9 hb9
        go_wp2_with fail
        (with_reducible refine (fault_placed 103 (K : Int) _ (by decide)).mono ?_)
        rintro r w11 ⟨rfl, hb11⟩
        replace hb11 := hidden (hb10.out.trans (hb11.mono hb10.out.size))
        have hs11 := hidden (same_self _ 103 (K : Int) true w11 (faultIs_at A 2 ga (K : Int) w11 (hSW.out _ (hb8.out.trans (hb11.out.mono hb8.out.size))) (by decide) (hat8.out _ hb11.out)))
        clear hb10
        go_wp2_with fail
        (with_reducible refine hs11.out.mono ?_)
        rintro r w12 ⟨rfl, hb12⟩
        replace hb12 := hidden (hb8.out.trans ((hb11.out.trans (hb12.mono hb11.out.size)).mono hb8.out.size))
        clear hs11 hb11
        go_wp2
        go_ret
        exact ⟨rfl, hb12.out⟩
end Go.Proofs.YtghkmagofadkfaaDoor
