import Derived.Test.YtghkmagofadkfaaDoorCapsLaw
import Derived.Test.YtghkmagofadkfaaDoorLaidOn
namespace Go.Proofs.YtghkmagofadkfaaDoor
open Go.RowKit
set_option linter.unusedVariables false

abbrev nsL (x y z : Int) : List Ln := [⟨5, 2, 3, x⟩, ⟨5, 2, 3, y⟩, ⟨5, 2, 4, z⟩, ⟨5, 1, 3, x⟩]
abbrev nsM (z : Int) : List Ln := [⟨4, 1, 4, z⟩, ⟨5, 1, 4, z⟩]
def nsT (i m k : Int) : CTab := setCT (setCT (setCT noC (3, 3) i) (2, 2) m) (1, 5) k
theorem nsT_ca (i m k : Int) : CaT (nsT i m k) := ((noC_ca.set _ _).set _ _).set _ _
theorem nsT_get {i m k : Int} (hi : 0 < i ∧ i ≤ 900) (hm : 0 < m ∧ m ≤ 1500) (hk : 0 < k ∧ k ≤ 2500) (s : LimT) : getC (nsT i m k) s = if s = (1, 5) then k else if s = (2, 2) then m else if s = (3, 3) then i else 0 := by
  unfold nsT
  rw [getC_set, getC_set, getC_set, getC_no]
  have h1 : monOk i := by unfold monOk; omega
  have h2 : monOk m := by unfold monOk; omega
  have h3 : monOk k := by unfold monOk; omega
  by_cases q1 : s = (1, 5)
  · rw [if_pos ⟨by decide, h3, q1⟩, if_pos q1]
  · rw [if_neg (fun z => q1 z.2.2), if_neg q1]
    by_cases q2 : s = (2, 2)
    · rw [if_pos ⟨by decide, h2, q2⟩, if_pos q2]
    · rw [if_neg (fun z => q2 z.2.2), if_neg q2]
      by_cases q3 : s = (3, 3)
      · rw [if_pos ⟨by decide, h1, q3⟩, if_pos q3]
      · rw [if_neg (fun z => q3 z.2.2), if_neg q3]
theorem sumN_two' {f : Nat → Int} {n a b : Nat} {u v : Int} (ha : a < n) (hb : b < n) (hab : a ≠ b) (h : ∀ k, k < n → k ≠ a → k ≠ b → f k = 0) (hu : f a = u) (hv : f b = v) : sumN f n = u + v := by rw [sumN_two ha hb hab h, hu, hv]
theorem ns_sum {i m k x y z : Int} (hi : 0 < i ∧ i ≤ 900) (hm : 0 < m ∧ m ≤ 1500) (hk : 0 < k ∧ k ≤ 2500) (hx : 0 ≤ x) (hy : 0 ≤ y) (hz : 0 ≤ z) :
    s4 (nsT i m k) (nsL x y z) = min (min (min (x + y) i + z) m + min x i) k := by
  have hC := nsT_ca i m k
  have hg := nsT_get hi hm hk
  have e : ∀ c u j, s1 (nsL x y z) c u j = (if 5 = c ∧ 2 = u ∧ 3 = j then x + y else 0) + (if 5 = c ∧ 2 = u ∧ 4 = j then z else 0) + (if 5 = c ∧ 1 = u ∧ 3 = j then x else 0) := fun c u j => by
    simp only [s1, hitL]
    split <;> split <;> split <;> omega
  have b2 : s2 (nsT i m k) (nsL x y z) 5 2 = min (x + y) i + z := by
    refine sumN_two' (a := 3) (b := 4) (by omega) (by omega) (by omega) (fun j hj h1 h2 => ?_) ?_ ?_
    · rw [e, if_neg (by omega), if_neg (by omega), if_neg (by omega)]; exact capN_zero (hC.get _).1
    · rw [e, hg]
      show capN (x + y + 0 + 0) i = _
      rw [Int.add_zero, Int.add_zero, capN_min hi.1]
    · rw [e, hg]
      show capN (0 + z + 0) 0 = _
      rw [Int.add_zero, Int.zero_add, capN_free]
  have b1 : s2 (nsT i m k) (nsL x y z) 5 1 = min x i := by
    rw [s2_issuer hC (d := 3) (by omega) (fun j hj => by rw [e, if_neg (by omega), if_neg (by omega), if_neg (by omega)]; rfl), e, hg]
    show capN (0 + 0 + x) i = _
    rw [show (0 : Int) + 0 + x = x by omega, capN_min hi.1]
  have c5 : s3 (nsT i m k) (nsL x y z) 5 = min (min (x + y) i + z) m + min x i := by
    have : sumN (fun j => capN (s2 (nsT i m k) (nsL x y z) 5 ((j : Int) + 1)) (getC (nsT i m k) (2, (j : Int) + 1))) 6 = min x i + min (min (x + y) i + z) m := by
      refine sumN_two' (a := 0) (b := 1) (by omega) (by omega) (by omega) (fun j hj h1 h2 => ?_) ?_ ?_
      · rw [s2_none hC (fun q => by rw [e, if_neg (by omega), if_neg (by omega), if_neg (by omega)]; rfl)]; exact capN_zero (hC.get _).1
      · rw [hg]
        show capN (s2 (nsT i m k) (nsL x y z) 5 1) 0 = _
        rw [b1, capN_free]
      · rw [hg]
        show capN (s2 (nsT i m k) (nsL x y z) 5 2) m = _
        rw [b2, capN_min hm.1]
    unfold s3
    rw [this, Int.add_comm]
  rw [s4_class hC (d := 5) (by omega) (fun c u j q => by rw [e, if_neg (by omega), if_neg (by omega), if_neg (by omega)]; rfl), c5, hg]
  show capN _ k = _
  rw [capN_min hk.1]
theorem ns_other {i m k z : Int} (hi : 0 < i ∧ i ≤ 900) (hm : 0 < m ∧ m ≤ 1500) (hk : 0 < k ∧ k ≤ 2500) (hz : 0 ≤ z) :
    s4 (nsT i m k) (nsM z) = z + min z k := by
  have hC := nsT_ca i m k
  have hg := nsT_get hi hm hk
  have e : ∀ c u j, s1 (nsM z) c u j = (if 4 = c ∧ 1 = u ∧ 4 = j then z else 0) + (if 5 = c ∧ 1 = u ∧ 4 = j then z else 0) := fun c u j => by
    simp only [s1, hitL]
    split <;> split <;> omega
  have b : ∀ c, (4 = c ∨ 5 = c) → s3 (nsT i m k) (nsM z) c = z := fun c hc => by
    rw [s3_money hC (d := 1) (by omega) (fun u j q => by rw [e, if_neg (by omega), if_neg (by omega)]; rfl), s2_issuer hC (d := 4) (by omega) (fun j q => by rw [e, if_neg (by omega), if_neg (by omega)]; rfl), e, hg, hg]
    change capN (capN _ 0) 0 = z
    rw [capN_free, capN_free]
    rcases hc with rfl | rfl <;> simp
  unfold s4
  refine sumN_two' (a := 3) (b := 4) (by omega) (by omega) (by omega) (fun j hj h1 h2 => ?_) ?_ ?_
  · rw [s3_none hC (fun u q => by rw [e, if_neg (by omega), if_neg (by omega)]; rfl)]; exact capN_zero (hC.get _).1
  · rw [hg]
    show capN (s3 (nsT i m k) (nsM z) 4) 0 = _
    rw [b 4 (.inl rfl), capN_free]
  · rw [hg]
    show capN (s3 (nsT i m k) (nsM z) 5) k = _
    rw [b 5 (.inr rfl), capN_min hk.1]
theorem ns_set {i m k : Int} (hi : 0 < i ∧ i ≤ 900) (hm : 0 < m ∧ m ≤ 1500) (hk : 0 < k ∧ k ≤ 2500) : setCC (3, 3) i = 0 ∧ setCC (2, 2) m = 0 ∧ setCC (1, 5) k = 0 := by
  have h1 : monOk i := by unfold monOk; omega
  have h2 : monOk m := by unfold monOk; omega
  have h3 : monOk k := by unfold monOk; omega
  exact ⟨if_pos ⟨by decide, h1⟩, if_pos ⟨by decide, h2⟩, if_pos ⟨by decide, h3⟩⟩
theorem ns_ok {x y z : Int} (hx : 0 ≤ x ∧ x ≤ 999) (hy : 0 ≤ y ∧ y ≤ 999) (hz : 0 ≤ z ∧ z ≤ 999) : (∀ q ∈ nsL x y z, lnOk q) ∧ totL (nsL x y z) ≤ 1000000000000000 ∧ (∀ q ∈ nsM z, lnOk q) ∧ totL (nsM z) ≤ 1000000000000000 := by
  refine ⟨fun q hq => ?_, by simp only [totL]; omega, fun q hq => ?_, by simp only [totL]; omega⟩
  · simp only [List.mem_cons, List.not_mem_nil, or_false] at hq
    unfold lnOk
    rcases hq with rfl | rfl | rfl | rfl <;> simp only <;> omega
  · simp only [List.mem_cons, List.not_mem_nil, or_false] at hq
    unfold lnOk
    rcases hq with rfl | rfl <;> simp only <;> omega
theorem two_min (a b : Int) : ∃ P, P = min a b ∧ ((a ≤ b ∧ P = a) ∨ (b < a ∧ P = b)) := ⟨_, rfl, by omega⟩
set_option maxRecDepth 100000 in
set_option maxHeartbeats 6400000 in
theorem walk_capsNest (a b c i m k : Int) (A : Nat → Addr) (w : World) (a0 : -9223372036854775808 ≤ a) (a1 : a ≤ 9223372036854775807) (b0 : -9223372036854775808 ≤ b) (b1 : b ≤ 9223372036854775807) (c0 : -9223372036854775808 ≤ c) (c1 : c ≤ 9223372036854775807)
    (i0 : -9223372036854775808 ≤ i) (i1 : i ≤ 9223372036854775807) (m0 : -9223372036854775808 ≤ m) (m1 : m ≤ 9223372036854775807) (k0 : -9223372036854775808 ≤ k) (k1 : k ≤ 9223372036854775807) (hS : SentsOn [2, 3] w A) :
    Calls Tryd.prog 7 #[.int .i64 a, .int .i64 b, .int .i64 c, .int .i64 i, .int .i64 m, .int .i64 k] w fun r w' => r = .returned (.bool true) ∧ Below w.heap.size w w' := by
  have hF := hidden (law16_first A w hS.on)
  have hn := hidden (fun W (h : Below w.heap.size w W) => lnew16 h)
  have hE := hidden hS.on
  have nA := hidden (fun W => number_any a 1000 W a0 a1 (by decide) (by decide))
  have nB := hidden (fun W => number_any b 1000 W b0 b1 (by decide) (by decide))
  have nC := hidden (fun W => number_any c 1000 W c0 c1 (by decide) (by decide))
  have nI := hidden (fun W => number_any i 900 W i0 i1 (by decide) (by decide))
  have nM := hidden (fun W => number_any m 1500 W m0 m1 (by decide) (by decide))
  have nK := hidden (fun W => number_any k 2500 W k0 k1 (by decide) (by decide))
  have x0 : 0 ≤ a % 1000 ∧ a % 1000 ≤ 999 := by omega
  have y0 : 0 ≤ b % 1000 ∧ b % 1000 ≤ 999 := by omega
  have z0 : 0 ≤ c % 1000 ∧ c % 1000 ≤ 999 := by omega
  have p0 : 0 ≤ i % 900 ∧ i % 900 ≤ 899 := by omega
  have q0 : 0 ≤ m % 1500 ∧ m % 1500 ≤ 1499 := by omega
  have r0 : 0 ≤ k % 2500 ∧ k % 2500 ≤ 2499 := by omega
  clear hS a0 a1 b0 b1 c0 c1 i0 i1 m0 m1 k0 k1
  go_enter Tryd.func7, Tryd.ntmps7
  go_wp2_with fail
  refine hF.out.mono ?_
  rintro r w1 ⟨rfl, hb⟩
  obtain ⟨hL1, hb1⟩ := hn.out _ hb
  replace hL1 := hidden hL1
  replace hb1 := hidden hb1
  clear hb hF hn
  go_wp2_with fail
  (with_reducible refine (nA.out _).mono ?_)
  rintro r w2 ⟨rfl, rfl⟩
  go_wp2_with fail
  (with_reducible refine (nB.out _).mono ?_)
  rintro r w2 ⟨rfl, rfl⟩
  go_wp2_with fail
  (with_reducible refine (nC.out _).mono ?_)
  rintro r w2 ⟨rfl, rfl⟩
  go_wp2_with fail
  (with_reducible refine (nI.out _).mono ?_)
  rintro r w2 ⟨rfl, rfl⟩
  go_wp2_with fail
  (with_reducible refine (nM.out _).mono ?_)
  rintro r w2 ⟨rfl, rfl⟩
  go_wp2_with fail
  (with_reducible refine (nK.out _).mono ?_)
  rintro r w2 ⟨rfl, rfl⟩
  clear nA nB nC nI nM nK
  generalize a % 1000 = x at *
  generalize b % 1000 = y at *
  generalize c % 1000 = z at *
  generalize i % 900 = i' at *
  generalize m % 1500 = m' at *
  generalize k % 2500 = k' at *
  go_wp2_with fail
  obtain ⟨s1, s2, s3⟩ := ns_set (i := i' + 1) (m := m' + 1) (k := k' + 1) (by omega) (by omega) (by omega)
  have hsum := hidden (ns_sum (i := i' + 1) (m := m' + 1) (k := k' + 1) (x := x) (y := y) (z := z) (by omega) (by omega) (by omega) x0.1 y0.1 z0.1)
  have hoth := hidden (ns_other (i := i' + 1) (m := m' + 1) (k := k' + 1) (z := z) (by omega) (by omega) (by omega) z0.1)
  have hok := hidden (ns_ok x0 y0 z0)
  (with_reducible refine (lset16 hb1.out hL1.out (by decide) hE.out (3, 3) (i' + 1)).mono ?_)
  rintro r w2 ⟨rfl, hL2, hb2, _⟩
  rw [s1, errOf_fine]
  replace hL2 := hidden hL2
  replace hb2 := hidden hb2
  clear hL1 hb1 s1
  go_wp2_with fail
  (with_reducible refine (lset16 hb2.out hL2.out (by decide) hE.out (2, 2) (m' + 1)).mono ?_)
  rintro r w3 ⟨rfl, hL3, hb3, _⟩
  rw [s2, errOf_fine]
  replace hL3 := hidden hL3
  replace hb3 := hidden hb3
  clear hL2 hb2 s2
  go_wp2_with fail
  (with_reducible refine (lset16 hb3.out hL3.out (by decide) hE.out (1, 5) (k' + 1)).mono ?_)
  rintro r w4 ⟨rfl, hL4, hb4, _⟩
  rw [s3, errOf_fine]
  have hS1 := lsumN16 hb4 hL4 hE.out #[.int .i64 5, .int .i64 2, .int .i64 3, .int .i64 x, .int .i64 5, .int .i64 2, .int .i64 3, .int .i64 y, .int .i64 5, .int .i64 2, .int .i64 4, .int .i64 z, .int .i64 5, .int .i64 1, .int .i64 3, .int .i64 x] (nsL x y z) 4 rfl rfl (by decide) hok.out.1 hok.out.2.1
  rw [show setCT (setCT (setCT noC (3, 3) (i' + 1)) (2, 2) (m' + 1)) (1, 5) (k' + 1) = nsT (i' + 1) (m' + 1) (k' + 1) from rfl, hsum.out] at hS1
  replace hS1 := hidden hS1
  clear hL3 hb3 s3 hL4 hb4
  obtain ⟨P, hP, hP'⟩ := two_min (x + y) (i' + 1)
  rw [← hP] at hS1
  obtain ⟨Q, hQ, hQ'⟩ := two_min x (i' + 1)
  rw [← hQ] at hS1
  obtain ⟨R, hR, hR'⟩ := two_min (P + z) (m' + 1)
  rw [← hR] at hS1
  obtain ⟨S, hS, hS'⟩ := two_min (R + Q) (k' + 1)
  rw [← hS] at hS1
  obtain ⟨U, hU, hU'⟩ := two_min z (k' + 1)
  rw [← hU] at hoth
  replace hS' := hidden hS'
  replace hR' := hidden hR'
  replace hQ' := hidden hQ'
  replace hP' := hidden hP'
  replace hU' := hidden hU'
  clear hP hQ hR hS hU hsum
  go_wp2_with fail
  (with_reducible refine hS1.out.mono ?_)
  rintro r w5 ⟨rfl, hL5, hb5, _⟩
  have hS2 := lsumN16 hb5 hL5 hE.out #[.int .i64 4, .int .i64 1, .int .i64 4, .int .i64 z, .int .i64 5, .int .i64 1, .int .i64 4, .int .i64 z] (nsM z) 2 rfl rfl (by decide) hok.out.2.2.1 hok.out.2.2.2
  rw [hoth.out] at hS2
  replace hS2 := hidden hS2
  clear hS1 hL5 hb5 hoth hok
  have gP := hP'.out
  have gQ := hQ'.out
  have gR := hR'.out
  have gS := hS'.out
  clear hP' hQ' hR' hS'
  rcases gP with ⟨u1, rfl⟩ | ⟨u1, rfl⟩
  all_goals
    rcases gQ with ⟨u2, rfl⟩ | ⟨u2, rfl⟩
    all_goals
      rcases gR with ⟨u3, rfl⟩ | ⟨u3, rfl⟩
      all_goals
        rcases gS with ⟨u4, rfl⟩ | ⟨u4, rfl⟩
        all_goals
          first
            | omega
            | (go_wp2_with fail
               (with_reducible refine hS2.out.mono ?_)
               rintro r w6 ⟨rfl, _, hb6, _⟩
               replace hb6 := hidden hb6
               have gU := hU'.out
               clear hS2 hU'
               rcases gU with ⟨u5, rfl⟩ | ⟨u5, rfl⟩
               all_goals
                 go_wp2
                 go_ret
                 exact ⟨rfl, hb6.out⟩)
end Go.Proofs.YtghkmagofadkfaaDoor
