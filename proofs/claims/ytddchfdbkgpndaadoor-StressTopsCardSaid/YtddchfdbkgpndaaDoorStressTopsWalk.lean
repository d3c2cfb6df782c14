import Derived.Test.YtddchfdbkgpndaaDoorStressDo
import Derived.Test.YtddchfdbkgpndaaDoorLaidOn
import Derived.Deep.DeepCutAuto
namespace Go.Proofs.YtddchfdbkgpndaaDoor
open Go.RowKit
set_option linter.unusedVariables false

theorem reads_drop22 {k : IntKind} {w : World} {b o n c m : Nat} {xs : List Int} (h : Reads k w (.slice (some ⟨b, o, none⟩) n c) xs) (hm : m ≤ n) : Reads k w (.slice (some ⟨b, o + m, none⟩) (n - m) (c - m)) (xs.drop m) := by
  obtain ⟨a', len, cap, e, h1, h2, h3, h4, h5⟩ := h
  simp only [Value.slice.injEq] at e
  obtain ⟨rfl, rfl, rfl⟩ := e
  refine ⟨_, n - m, c - m, rfl, by simp; omega, by omega, by omega, (fun h => by cases h), fun ad had i hi => ?_⟩
  obtain rfl := Option.some.inj had
  obtain ⟨h6, h7⟩ := h5 _ rfl (m + i) (by omega)
  refine ⟨rfl, ?_⟩
  show w.cell? ⟨b, o + m + i, none⟩ = _
  rw [Nat.add_assoc]
  rw [h7]
  simp [List.getD_eq_getElem?_getD]
/-- of one it alone. -/
theorem top_single (x : Int) : (topC [x] = 0 ↔ amOk x) ∧ (topC [x] = 0 → topV [x] = x) := by
  have hA : AllAm [x] ↔ amOk x := by simp [AllAm]
  have ht : topA [x] = (max 0 x, max 0 (min 0 x)) := rfl
  by_cases h : amOk x
  · have hx := h
    unfold amOk at hx
    have h2 : ¬ 1000000000000000 < (topA [x]).1 + (topA [x]).2 := by rw [ht]; simp only; omega
    obtain ⟨e1, e2⟩ := topC_fine (hA.2 h) h2
    refine ⟨⟨fun _ => h, fun _ => e1⟩, fun _ => ?_⟩
    rw [e2, ht]
    simp only
    omega
  · have := topC_bad (fun q => h (hA.1 q))
    exact ⟨⟨fun e => by omega, fun e => absurd e h⟩, fun e => by omega⟩
theorem top_facts {l : List Int} (h : topC l = 0) : (∀ i, i < l.length → amOk (l.getD i 0)) ∧ (∀ i j, i < l.length → j < i → l.getD i 0 + l.getD j 0 ≤ topV l) ∧ (∀ i, i < l.length → l.getD i 0 ≤ topV l) := by
  have hA : AllAm l := by
    by_cases h2 : AllAm l
    · exact h2
    · have := (topC_bad h2).1; omega
  have h3 : ¬ 1000000000000000 < (topA l).1 + (topA l).2 := fun e => by have := (topC_over hA e).1; omega
  have e := (topC_fine hA h3).2
  have hb := topA_bd hA
  rw [e]
  refine ⟨fun i hi => hA _ (getI22_mem hi), fun i j hi hj => topA_two hA hi (by omega) (by omega), fun i hi => ?_⟩
  have := topA_one hA hi
  omega
theorem top_wrong {l : List Int} (h : topC l ≠ 0) : topV l = 0 := if_neg h
def TopsRel (N : Nat) (w0 : World) (i : Value) (w : World) : Prop := ∃ k : Nat, k ≤ N ∧ i = .int .i64 (k : Int) ∧ Below w0.heap.size w0 w
set_option maxRecDepth 100000 in
set_option maxHeartbeats 8000000 in
theorem walk_stressTops (v : Value) (l : List Int) (q : Int) (A : Nat → Addr) (w : World) (hr : Reads .i64 w v l) (hl : ∀ x ∈ l, -9223372036854775808 ≤ x ∧ x ≤ 9223372036854775807) (q0 : -9223372036854775808 ≤ q) (q1 : q ≤ 9223372036854775807) (hS : SentsOn [2, 3, 4] w A) :
    Calls Tryd.prog 5 #[v, .int .i64 q] w fun e w' => e = .returned (.bool true) ∧ Below w.heap.size w w' := by
  obtain ⟨va, vc, rfl⟩ := reads_slice hr
  have hF := hidden (law22_first A w hS.on)
  clear hl
  by_cases h30 : (30 : Int) < (l.length : Int)
  · clear hr q0 q1 hS
    go_enter Tryd.func5, Tryd.ntmps5
    go_wp2_with fail
    refine hF.out.mono ?_
    rintro r w1 ⟨rfl, hb⟩
    replace hb := hidden hb
    go_wp2
    go_ret
    exact ⟨rfl, hb.out⟩
  by_cases h00 : l.length = 0
  · have e0 : ((l.length : Int) == 0) = true := by rw [h00]; rfl
    clear hr q0 q1 hS h00
    go_enter Tryd.func5, Tryd.ntmps5
    go_wp2_with fail
    refine hF.out.mono ?_
    rintro r w1 ⟨rfl, hb⟩
    replace hb := hidden hb
    go_wp2
    go_ret
    exact ⟨rfl, hb.out⟩
  have e0 : ((l.length : Int) == 0) = false := by rw [beq_eq_false_iff_ne]; omega
  have hl0 : 0 < l.length := by omega
  have hl1 : l.length ≤ 30 := by omega
  have hP := hidden (fun W (hb : Below w.heap.size w W) v l hr => loTop_any A W v l hr ((hS.on.sub (ks := [2, 3]) (by simp)).below hb (Nat.le_refl _)))
  obtain ⟨b, o, rfl, _⟩ := hr.cell 0 hl0
  have hx1 := hidden (fun i (hi : i < l.length) W (hb : Below w.heap.size w W) => show W.cell? ⟨b, o + i, none⟩ = some (.int .i64 (l.getD i 0)) by
    obtain ⟨b', o', e, h⟩ := (hr.below hb (Nat.le_refl _)).cell i hi
    simp only [Option.some.injEq, Addr.mk.injEq, and_true] at e
    obtain ⟨rfl, rfl⟩ := e
    exact h)
  have hN := hidden (fun W => number_any q (l.length : Int) W q0 q1 (by omega) (by omega))
  obtain ⟨k, hk⟩ : ∃ k : Nat, q % (l.length : Int) = k := ⟨(q % (l.length : Int)).toNat, by have := Int.emod_nonneg q (show (l.length : Int) ≠ 0 by omega); omega⟩
  have hk2 : k < l.length := by have := Int.emod_lt_of_pos q (show 0 < (l.length : Int) by omega); omega
  have hcap := reads_cap hr
  have hkc : ¬ vc = k := by omega
  have hk3 : (0 : Int) ≤ (k : Int) := by omega
  have hk4 : (k : Int) ≤ (l.length : Int) := by omega
  have hk5 : (k : Int) ≤ (vc : Int) := by omega
  replace hr := hidden hr
  have kb := emptyI22
  have hbad := hidden (@top_wrong l)
  have hfine := hidden (@top_facts l)
  have hturn := hidden (And.intro (topC_turn (l.take k) (l.drop k)) (topV_turn (l.take k) (l.drop k)))
  rw [List.take_append_drop] at hturn
  have hone := hidden (top_single (l.getD 0 0))
  clear hS q0 q1 h00 hcap
  go_enter Tryd.func5, Tryd.ntmps5
  go_wp2_with fail
  refine hF.out.mono ?_
  rintro r w1 ⟨rfl, hb1⟩
  clear hF
  go_wp2_with fail
  refine (hN.out _).mono ?_
  rintro r w2 ⟨rfl, rfl⟩
  rw [hk]
  clear hN hk
  go_wp2_with fail
  go_region_held3 (fun w' => Below w.heap.size w w')
    ((first | exact hb1 | exact hb1.drew | exact hb1.drew.alloc hb1.drew.size _ | assumption | exact Below.trans (by assumption) hbx1 | exact Below.trans (by assumption) hbx2))
    ((first
      | (refine step_app (by rfl) _ _ _ (by rfl) 2 Tryd.underlying23 infoI22 (by rfl) (by decide) w.heap.size _ 0 [] (by rfl) (World.ownsRow_made _ #[] 0 hb1.drew.size (by decide) (by rfl)) (k := .i64) (by rfl) (reads_drop22 (m := k) (hr.out.below (by assumption) (Nat.le_refl _)) (by omega)) (by omega) (by simp; omega) (Below.size (by assumption)) ?_; intro v1 w1 hown1 hbx1)
      | (refine step_app (by rfl) _ _ _ (by rfl) 2 Tryd.underlying23 infoI22 (by rfl) (by decide) w.heap.size v1 _ _ (by rfl) hown1 (k := .i64) (by rfl) (reads_take (m := k) (hr.out.below (by assumption) (Nat.le_refl _)) (by omega)) (by simp; omega) (by simp; omega) (Below.size (by assumption)) ?_; intro v2 w2 hown2 hbx2)))
  rename_i hB2
  have hm := hidden (reads_of_own (k := .i64) (xs := l.drop k ++ l.take k) (n := 0 + (l.drop k).length + (l.take k).length) (by simpa using hown2))
  replace hB2 := hidden hB2
  have hPl := hidden (hP.out _ hB2.out _ _ (hr.out.below hB2.out (Nat.le_refl _)))
  have hPm := hidden (fun W (hb : Below w2.heap.size w2 W) => hP.out W (hB2.out.trans (hb.mono hB2.out.size)) _ _ (hm.out.below hb (Nat.le_refl _)))
  rw [hturn.out.1, hturn.out.2] at hPm
  clear hown1 hown2 hbx1 hbx2 kb hb1 hturn hr hm
  generalize topV l = tv at *
  generalize topC l = tc at *
  go_wp2_with fail
  (with_reducible refine hPl.out.mono ?_)
  rintro r w3 ⟨rfl, hb3⟩
  have hPm3 := hidden (hPm.out _ hb3)
  have hB3 := hidden (hB2.out.trans (hb3.mono hB2.out.size))
  clear hPl hPm hb3 hB2
  go_wp2_with fail
  (with_reducible refine hPm3.out.mono ?_)
  rintro r w4 ⟨rfl, hb4⟩
  have hB4 := hidden (hB3.out.trans (hb4.mono hB3.out.size))
  have c0 := hx1.out 0 hl0 _ hB4.out
  rw [Nat.add_zero] at c0
  have hB5 := hidden (hB4.out.alloc hB4.out.size (.cells #[.int .i64 (l.getD 0 0)] 2))
  have hP1 := hidden (hP.out _ hB5.out _ _ (reads_new (k := .i64) (w := w4) (e := 2) #[.int .i64 (l.getD 0 0)] [l.getD 0 0] 1 rfl rfl (by decide)))
  have hx0 := hidden (fun W (hb : Below w.heap.size w W) => by have h := hx1.out 0 hl0 W hb; rw [Nat.add_zero] at h; exact h)
  generalize hxe : l.getD 0 0 = x at *
  generalize topV [x] = sv at *
  generalize topC [x] = sc at *
  clear hPm3 hb4 hB3 hP
  go_wp2_with fail
  (with_reducible refine hP1.out.mono ?_)
  rintro r w5 ⟨rfl, hb5⟩
  have hB6 := hidden (hB5.out.trans (hb5.mono hB5.out.size))
  clear c0 hP1 hb5 hB5 hB4
  have c0 := hx0.out _ hB6.out
  have hB6D := hidden (fun m => below_drewN (m := m) hB6.out)
  clear hB6 hxe
  go_upto_region 11 with (fail)
  go_cut [98] (fun b wx => b = .bool false ∧ Below w.heap.size w wx)
  case first =>
    as_aux_lemma =>
      have he : errOf A tc = .nilIface ∨ ∃ a, errOf A tc = errAt a := by
        by_cases h : tc = 0
        · subst h; exact .inl rfl
        · exact .inr (errOf_bad A h)
      have hg : (errOf A sc = .nilIface ∧ sv = x ∧ decide (0 ≤ x) = true ∧ decide (x ≤ 1000000000000000) = true) ∨ (∃ a, errOf A sc = errAt a ∧ decide (0 ≤ x) = false) ∨ (∃ a, errOf A sc = errAt a ∧ decide (0 ≤ x) = true ∧ decide (x ≤ 1000000000000000) = false) := by
        simp only [decide_eq_true_iff, decide_eq_false_iff_not]
        by_cases h : sc = 0
        · have h1 := hone.out.1.1 h
          unfold amOk at h1
          have h2 := hone.out.2 h
          subst h
          exact .inl ⟨rfl, h2, h1.1, h1.2⟩
        · obtain ⟨a, ha⟩ := errOf_bad A h
          have h1 : ¬ amOk x := fun e => h (hone.out.1.2 e)
          unfold amOk at h1
          by_cases h2 : 0 ≤ x
          · exact .inr (.inr ⟨a, ha, h2, by omega⟩)
          · exact .inr (.inl ⟨a, ha, h2⟩)
      clear hone hbad hfine hx0 hx1
      generalize errOf A tc = ev at *
      generalize errOf A sc = gv at *
      rcases he with rfl | ⟨ea, rfl⟩ <;> rcases hg with ⟨rfl, rfl, d1, d2⟩ | ⟨ga, rfl, d1⟩ | ⟨ga, rfl, d1, d2⟩
      all_goals
        go_wp2_with fail
        go_quiet (fail)
        go_wp2
        go_meet
        exact ⟨rfl, hB6D.out _⟩
  case rest =>
    obtain ⟨rfl, hB7⟩ := hcut
    clear c0 hB6D hone hx0
    by_cases htc : tc = 0
    · obtain ⟨f1, f2, f3⟩ := hfine.out htc
      replace f1 := hidden f1
      replace f2 := hidden f2
      replace f3 := hidden f3
      subst htc
      rw [errOf_fine]
      replace hB7 := hidden hB7
      clear hbad hfine
      go_wp2_with fail
      go_loopw [14] (fun i wr => TopsRel l.length w i wr) (fun i _ => l.length - (intOf i).toNat)
      case atStart => exact ⟨0, Nat.zero_le _, rfl, hB7.out⟩
      case round =>
        clear hB7
        obtain ⟨i, hi, rfl, hb⟩ := hrel
        by_cases hlt : i < l.length
        · have hlI : (i : Int) < (l.length : Int) := by omega
          have hi30 : (i : Int) ≤ 30 := by omega
          have hxi := f1.out i hlt
          have hxt := f3.out i hlt
          have f4 := hidden (fun j hj => f2.out i j hlt hj)
          have ci := hidden (hx1.out i hlt)
          generalize l.getD i 0 = y at *
          unfold amOk at hxi
          replace hb := hidden hb
          go_wp2_with fail
          go_loopw [15] (fun j wr => TopsRel i w j wr) (fun j _ => i - (intOf j).toNat)
          case atStart => exact ⟨0, Nat.zero_le _, rfl, hb.out⟩
          case round =>
            clear hb
            obtain ⟨j, hj, rfl, hb⟩ := hrel
            by_cases hjlt : j < i
            · have hjI : (j : Int) < (i : Int) := by omega
              have hjl : (j : Int) < (l.length : Int) := by omega
              have hxj := f1.out j (by omega)
              have hsum := f4.out j hjlt
              have c1 := ci.out _ hb
              have c2 := hx1.out j (by omega) _ hb
              generalize l.getD j 0 = z at *
              unfold amOk at hxj
              have hw : IntKind.i64.wrap (y + z) = y + z := by rw [IntKind.wrap_i64]; omega
              have hbD := hidden (fun m => below_drewN (m := m) hb)
              clear hb hx1 ci f4 f1 f2 f3
              go_wp2_with fail
              go_quiet (fail)
              go_wp2
              go_roundw
              case rel => exact ⟨j + 1, hjlt, by go_num, hbD.out _⟩
              case measure => simp [intOf]; omega
            · obtain rfl : j = i := by omega
              have c1 := ci.out _ hb
              replace hb := hidden hb
              clear hx1 ci f4 f1 f2 f3
              go_wp2
              go_roundw
              case rel => exact ⟨j + 1, hlt, by go_num, hb.out⟩
              case measure => simp [intOf]; omega
        · obtain rfl : i = l.length := by omega
          replace hb := hidden hb
          clear hx1 f1 f2 f3
          go_wp2
          go_ret
          exact ⟨rfl, hb.out⟩
    · obtain ⟨ea, hea⟩ := errOf_bad A htc
      obtain rfl := hbad.out htc
      rw [hea]
      replace hB7 := hidden hB7
      clear hfine hbad hx1 htc hea
      go_wp2
      go_ret
      exact ⟨rfl, hB7.out⟩
end Go.Proofs.YtddchfdbkgpndaaDoor
