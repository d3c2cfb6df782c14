import Derived.Test.YtbjiiddlpfjipaaDoorAssetNew
import Derived.Test.YtbjiiddlpfjipaaDoorAsset4
import Derived.Test.YtbjiiddlpfjipaaDoorLaidOn
import Derived.Deep.DeepCutAuto
namespace Go.Proofs.YtbjiiddlpfjipaaDoor
open Go.RowKit
set_option linter.unusedVariables false

/-- within its bounds? may it be? (not to be opened by a walk.) -/
def inA (a : As) : Bool := decide (AsIn a)
def okA (a : As) : Bool := decide (AsOk a)
theorem okA_ways (a : As) : (inA a = false ∧ okA a = false) ∨ (inA a = true ∧ decide (1 < a.c) = true ∧ okA a = true) ∨ (inA a = true ∧ decide (1 < a.c) = false ∧ (a.s == 0) = false ∧ okA a = false) ∨
    (inA a = true ∧ decide (1 < a.c) = false ∧ (a.s == 0) = true ∧ (a.e == 0) = false ∧ okA a = false) ∨ (inA a = true ∧ decide (1 < a.c) = false ∧ (a.s == 0) = true ∧ (a.e == 0) = true ∧ okA a = true) := by
  by_cases hi : AsIn a
  · have h1 : inA a = true := decide_eq_true hi
    have hc := hi.2.2.1.1
    by_cases h2 : 1 < a.c
    · exact .inr (.inl ⟨h1, decide_eq_true h2, decide_eq_true ⟨hi, fun h => by omega⟩⟩)
    · have h2' : decide (1 < a.c) = false := decide_eq_false h2
      by_cases h3 : a.s = 0
      · by_cases h4 : a.e = 0
        · exact .inr (.inr (.inr (.inr ⟨h1, h2', beq_iff_eq.2 h3, beq_iff_eq.2 h4, decide_eq_true ⟨hi, fun _ => ⟨h3, h4⟩⟩⟩)))
        · exact .inr (.inr (.inr (.inl ⟨h1, h2', beq_iff_eq.2 h3, beq_eq_false_iff_ne.2 h4, decide_eq_false fun h => h4 (h.2 (by omega)).2⟩)))
      · exact .inr (.inr (.inl ⟨h1, h2', beq_eq_false_iff_ne.2 h3, decide_eq_false fun h => h3 (h.2 (by omega)).1⟩))
  · exact .inl ⟨decide_eq_false hi, decide_eq_false fun h => hi h.1⟩
set_option maxRecDepth 100000 in
set_option maxHeartbeats 4000000 in
theorem walk_assetBounds (i s c m e : Int) (A : Nat → Addr) (w : World) (i0 : -9223372036854775808 ≤ i) (i1 : i ≤ 9223372036854775807) (s0 : -9223372036854775808 ≤ s) (s1 : s ≤ 9223372036854775807) (c0 : -9223372036854775808 ≤ c) (c1 : c ≤ 9223372036854775807)
    (m0 : -9223372036854775808 ≤ m) (m1 : m ≤ 9223372036854775807) (e0 : -9223372036854775808 ≤ e) (e1 : e ≤ 9223372036854775807) (hS : Sents w A) :
    Calls Tryd.prog 6 #[.int .i64 i, .int .i64 s, .int .i64 c, .int .i64 m, .int .i64 e] w fun r w' => r = .returned (.bool true) ∧ Below w.heap.size w w' := by
  have hI := hidden (fun k (hk : codeOk k) d W (h : Below w.heap.size w W) => is_any A k d W (hS.below h (Nat.le_refl _)) hk)
  have hE := hidden (fun W (h : Below w.heap.size w W) => (hS.on [2, 6] (by decide)).below h (Nat.le_refl _))
  have hz := hidden master_zero
  clear hS i0 i1 s0 s1 c0 c1 m0 m1 e0 e1
  have hw := hidden (okA_ways ⟨i, s, c, m, e⟩)
  go_enter Tryd.func6, Tryd.ntmps6
  go_wp2_with fail
  refine (law10_first w).mono ?_
  rintro r w1 ⟨rfl, hb⟩
  have hb1 := hidden (hb.trans ((below_as w1 ⟨i, s, c, m, e⟩).mono hb.size))
  have ha1 := hidden (asAt_new w1 ⟨i, s, c, m, e⟩)
  clear hb
  go_upto_region 5 with (fail)
  go_cut [13] (fun v wx => v = .bool (inA ⟨i, s, c, m, e⟩) ∧ w1.alloc (asO ⟨i, s, c, m, e⟩) = wx)
  case first =>
    clear hI hE hz hw hb1 ha1
    cases h1 : decide (1 ≤ i)
    · have q := hidden (show inA ⟨i, s, c, m, e⟩ = false from decide_eq_false fun h => (of_decide_eq_false h1) h.1.1)
      go_wp2
      go_meet
      exact ⟨by rw [q.out], rfl⟩
    cases h2 : decide (i ≤ 32)
    · have q := hidden (show inA ⟨i, s, c, m, e⟩ = false from decide_eq_false fun h => (of_decide_eq_false h2) h.1.2)
      go_wp2
      go_meet
      exact ⟨by rw [q.out], rfl⟩
    cases h3 : decide (0 ≤ s)
    · have q := hidden (show inA ⟨i, s, c, m, e⟩ = false from decide_eq_false fun h => (of_decide_eq_false h3) h.2.1.1)
      go_wp2
      go_meet
      exact ⟨by rw [q.out], rfl⟩
    cases h4 : decide (s ≤ 32)
    · have q := hidden (show inA ⟨i, s, c, m, e⟩ = false from decide_eq_false fun h => (of_decide_eq_false h4) h.2.1.2)
      go_wp2
      go_meet
      exact ⟨by rw [q.out], rfl⟩
    cases h5 : decide (1 ≤ c)
    · have q := hidden (show inA ⟨i, s, c, m, e⟩ = false from decide_eq_false fun h => (of_decide_eq_false h5) h.2.2.1.1)
      go_wp2
      go_meet
      exact ⟨by rw [q.out], rfl⟩
    cases h6 : decide (c ≤ 6)
    · have q := hidden (show inA ⟨i, s, c, m, e⟩ = false from decide_eq_false fun h => (of_decide_eq_false h6) h.2.2.1.2)
      go_wp2
      go_meet
      exact ⟨by rw [q.out], rfl⟩
    cases h7 : decide (1 ≤ m)
    · have q := hidden (show inA ⟨i, s, c, m, e⟩ = false from decide_eq_false fun h => (of_decide_eq_false h7) h.2.2.2.1.1)
      go_wp2
      go_meet
      exact ⟨by rw [q.out], rfl⟩
    cases h8 : decide (m ≤ 6)
    · have q := hidden (show inA ⟨i, s, c, m, e⟩ = false from decide_eq_false fun h => (of_decide_eq_false h8) h.2.2.2.1.2)
      go_wp2
      go_meet
      exact ⟨by rw [q.out], rfl⟩
    cases h9 : decide (0 ≤ e)
    · have q := hidden (show inA ⟨i, s, c, m, e⟩ = false from decide_eq_false fun h => (of_decide_eq_false h9) h.2.2.2.2.1)
      go_wp2
      go_meet
      exact ⟨by rw [q.out], rfl⟩
    cases h10 : decide (e ≤ 40000)
    · have q := hidden (show inA ⟨i, s, c, m, e⟩ = false from decide_eq_false fun h => (of_decide_eq_false h10) h.2.2.2.2.2)
      go_wp2
      go_meet
      exact ⟨by rw [q.out], rfl⟩
    have q := hidden (show inA ⟨i, s, c, m, e⟩ = true from decide_eq_true ⟨⟨of_decide_eq_true h1, of_decide_eq_true h2⟩, ⟨of_decide_eq_true h3, of_decide_eq_true h4⟩, ⟨of_decide_eq_true h5, of_decide_eq_true h6⟩, ⟨of_decide_eq_true h7, of_decide_eq_true h8⟩, ⟨of_decide_eq_true h9, of_decide_eq_true h10⟩⟩)
    go_wp2
    go_meet
    exact ⟨by rw [q.out], rfl⟩
  case rest =>
    obtain ⟨rfl, rfl⟩ := hcut
    go_upto_region 6 with (fail)
    go_cut [13, 14] (fun u v wx => u = .bool (inA ⟨i, s, c, m, e⟩) ∧ v = .bool (okA ⟨i, s, c, m, e⟩) ∧ w1.alloc (asO ⟨i, s, c, m, e⟩) = wx)
    case first =>
      clear hI hE hz hb1 ha1
      rcases hw.out with ⟨t1, q⟩ | ⟨t1, t2, q⟩ | ⟨t1, t2, t3, q⟩ | ⟨t1, t2, t3, t4, q⟩ | ⟨t1, t2, t3, t4, q⟩
      all_goals
        replace q := hidden q
        have q1 := hidden t1
        go_wp2
        go_meet
        exact ⟨by rw [q1.out], by rw [q.out], rfl⟩
    case rest =>
      obtain ⟨rfl, rfl, rfl⟩ := hcut
      clear hw
      have hwg := hidden (show w.heap.size ≤ (w1.alloc (asO ⟨i, s, c, m, e⟩)).heap.size from hb1.out.size)
      have hw12 := hidden (show ¬ w1.heap.size = (w1.alloc (asO ⟨i, s, c, m, e⟩)).heap.size by simp)
      generalize hW : w1.alloc (asO ⟨i, s, c, m, e⟩) = w2 at *
      clear hW
      have hn := hidden (tabAt_new w2)
      replace ha1 := hidden (ha1.out.below ((Below.refl w2.heap.size w2).alloc (Nat.le_refl _) (.cells tabF 28)))
      replace hb1 := hidden (hb1.out.alloc hb1.out.size (.cells tabF 28))
      generalize tabF = F at *
      obtain ⟨a0, a1, a2, a3, a4⟩ := ha1.out.cells
      simp only at a0 a1 a2 a3 a4
      have hzz := hz.out
      by_cases ho : AsOk ⟨i, s, c, m, e⟩
      · obtain ⟨q1, q2, q3, q4, q5, q6⟩ := oneA ho
        simp only at q3 q4
        have hok : okA ⟨i, s, c, m, e⟩ = true := decide_eq_true ho
        have hv : vC ⟨i, s, c, m, e⟩ = 0 := if_pos ho
        rw [hok]
        have hA := hidden (add_any10 A tabZ w2.heap.size ⟨i, s, c, m, e⟩ _ hn.out (hE.out _ hb1.out))
        unfold AddAt at hA
        rw [q1, q2, errOf_fine] at hA
        have hV := hidden (fun W (h : Below w.heap.size w W) => valid_any A ⟨i, s, c, m, e⟩ W ((hE.out W h).sub (by simp)))
        rw [hv, errOf_fine] at hV
        have hG := hidden (fun W h => get_any (putA tabZ ⟨i, s, c, m, e⟩) w2.heap.size i W h)
        rw [q3, q4] at hG
        have hL := hidden (fun W h => all_any (putA tabZ ⟨i, s, c, m, e⟩) w2.heap.size W h)
        rw [q5] at hL
        have hA2 := hidden (fun W h (hb : Below w.heap.size w W) => add_any10 A (putA tabZ ⟨i, s, c, m, e⟩) w2.heap.size ⟨i, s, c, m, e⟩ W h (hE.out W hb))
        unfold AddAt at hA2
        rw [q6] at hA2
        have hI7 := hidden (hI.out 107 (.inr (by decide)) 107)
        clear q1 q2 q3 q4 q5 q6 hok hv ho hE hI
        generalize putA tabZ ⟨i, s, c, m, e⟩ = T at *
        go_wp2_with fail
        refine hA.out.mono ?_
        rintro r w3 ⟨rfl, hT, ht⟩
        replace hT := hidden hT
        replace ha1 := hidden (ha1.out.trd ht hw12.out)
        replace hb1 := hidden (hb1.out.trans (ht.below (fun k hk => by rw [hk]; exact hwg.out) hb1.out.size))
        clear ht hn hA a0 a1 a2 a3 a4
        go_wp2_with fail
        refine (hG.out _ hT.out).mono ?_
        rintro r w4 ⟨rfl, hb⟩
        have hc4 := hidden (asAt_new w4 ⟨i, s, c, m, e⟩)
        replace hT := hidden ((hT.out.below hb).below (below_as w4 ⟨i, s, c, m, e⟩))
        replace ha1 := hidden ((ha1.out.below hb).below (below_as w4 ⟨i, s, c, m, e⟩))
        replace hb1 := hidden ((hb1.out.trans (hb.mono hb1.out.size)).alloc (by have := hb1.out.size; have := hb.size; omega) (asO ⟨i, s, c, m, e⟩))
        clear hb hG
        obtain ⟨a0, a1, a2, a3, a4⟩ := ha1.out.cells
        simp only at a0 a1 a2 a3 a4
        go_wp2_with fail
        refine (hV.out _ hb1.out).mono ?_
        rintro r w5 ⟨rfl, hb⟩
        replace hc4 := hidden (hc4.out.below hb)
        replace hT := hidden (hT.out.below hb)
        replace ha1 := hidden (ha1.out.below hb)
        replace hb1 := hidden (hb1.out.trans (hb.mono hb1.out.size))
        clear hb hV a0 a1 a2 a3 a4
        obtain ⟨a0, a1, a2, a3, a4⟩ := ha1.out.cells
        obtain ⟨b0, b1, b2, b3, b4⟩ := hc4.out.cells
        simp only at a0 a1 a2 a3 a4 b0 b1 b2 b3 b4
        go_wp2_with fail
        refine (sameAs_any ⟨i, s, c, m, e⟩ _).mono ?_
        rintro r w6 ⟨rfl, hb⟩
        replace hT := hidden (hT.out.below hb)
        replace ha1 := hidden (ha1.out.below hb)
        replace hb1 := hidden (hb1.out.trans (hb.mono hb1.out.size))
        clear hb hc4 a0 a1 a2 a3 a4 b0 b1 b2 b3 b4
        go_wp2_with fail
        refine (hL.out _ hT.out).mono ?_
        rintro r w7 ⟨v, rfl, hown, hb⟩
        obtain ⟨va, vc, rfl⟩ := row_slice (hown.row asV_len)
        replace hT := hidden (hT.out.below hb)
        replace ha1 := hidden (ha1.out.below hb)
        replace hb1 := hidden (hb1.out.trans (hb.mono hb1.out.size))
        clear hb hL hown
        obtain ⟨a0, a1, a2, a3, a4⟩ := ha1.out.cells
        simp only at a0 a1 a2 a3 a4
        go_wp2_with fail
        refine (hA2.out _ hT.out hb1.out).mono ?_
        rintro r w8 ⟨rfl, _, ht⟩
        replace hb1 := hidden (hb1.out.trans (ht.below (fun k hk => by rw [hk]; exact hwg.out) hb1.out.size))
        clear ht hA2 hT ha1 a0 a1 a2 a3 a4
        go_wp2_with fail
        refine (hI7.out _ hb1.out).mono ?_
        rintro r w9 ⟨rfl, hb⟩
        replace hb1 := hidden (hb1.out.trans (hb.mono hb1.out.size))
        clear hb
        go_wp2
        go_ret
        exact ⟨rfl, hb1.out⟩
      · obtain ⟨q1, q2, q3⟩ := addC_no (t := tabZ) ho
        have hok : okA ⟨i, s, c, m, e⟩ = false := decide_eq_false ho
        rw [hok]
        have hA := hidden (add_any10 A tabZ w2.heap.size ⟨i, s, c, m, e⟩ _ hn.out (hE.out _ hb1.out))
        unfold AddAt at hA
        rw [q1, q3] at hA
        have e103 : errOf A 103 = errAt (A 2) := rfl
        have hV := hidden (fun W (h : Below w.heap.size w W) => valid_any A ⟨i, s, c, m, e⟩ W ((hE.out W h).sub (by simp)))
        rw [q2] at hV
        have hG := hidden (fun W h => get_any tabZ w2.heap.size i W h)
        rw [gotZ] at hG
        have hL := hidden (fun W h => all_any tabZ w2.heap.size W h)
        rw [allA_zero] at hL
        have hI3 := hidden (hI.out 103 (.inr (by decide)) 103)
        rw [e103] at hA hV hI3
        clear q1 q2 q3 hok ho hE hI e103
        generalize gotA tabZ i = x at *
        generalize tabZ = T at *
        go_wp2_with fail
        refine hA.out.mono ?_
        rintro r w3 ⟨rfl, hT, ht⟩
        replace hT := hidden hT
        replace ha1 := hidden (ha1.out.trd ht hw12.out)
        replace hb1 := hidden (hb1.out.trans (ht.below (fun k hk => by rw [hk]; exact hwg.out) hb1.out.size))
        clear ht hn hA a0 a1 a2 a3 a4
        go_wp2_with fail
        refine (hG.out _ hT.out).mono ?_
        rintro r w4 ⟨rfl, hb⟩
        replace hT := hidden ((hT.out.below hb).below (below_as w4 x))
        replace ha1 := hidden ((ha1.out.below hb).below (below_as w4 x))
        replace hb1 := hidden ((hb1.out.trans (hb.mono hb1.out.size)).alloc (by have := hb1.out.size; have := hb.size; omega) (asO x))
        clear hb hG
        obtain ⟨a0, a1, a2, a3, a4⟩ := ha1.out.cells
        simp only at a0 a1 a2 a3 a4
        go_wp2_with fail
        refine (hV.out _ hb1.out).mono ?_
        rintro r w5 ⟨rfl, hb⟩
        replace hT := hidden (hT.out.below hb)
        replace hb1 := hidden (hb1.out.trans (hb.mono hb1.out.size))
        clear hb hV ha1 a0 a1 a2 a3 a4
        go_wp2_with fail
        refine (hI3.out _ hb1.out).mono ?_
        rintro r w6 ⟨rfl, hb⟩
        replace hT := hidden (hT.out.below hb)
        replace hb1 := hidden (hb1.out.trans (hb.mono hb1.out.size))
        clear hb hI3
        go_wp2_with fail
        refine (hL.out _ hT.out).mono ?_
        rintro r w7 ⟨v, rfl, hown, hb⟩
        obtain ⟨va, vc, rfl⟩ := row_slice (hown.row asV_len)
        replace hb1 := hidden (hb1.out.trans (hb.mono hb1.out.size))
        clear hb hL hown
        go_wp2
        go_ret
        exact ⟨rfl, hb1.out⟩
end Go.Proofs.YtbjiiddlpfjipaaDoor
