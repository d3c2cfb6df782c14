/-
  slices' symMerge of any two runs.
-/
import Derived.Test.YtlanggdmdpjfbaaDoorShare1
namespace Go.Proofs.YtlanggdmdpjfbaaDoor
open Go Go.RowKit
set_option linter.unusedVariables false

abbrev SymAt23 (rs : List Int) (w0 : World) (gr g c n : Nat) (f : Nat → Nat) (a m b : Nat) (W : World) : Prop := Calls Tryd.prog 78 #[.slice (some ⟨g, 0, none⟩) n c, .int .i64 (a : Int), .int .i64 (m : Int), .int .i64 (b : Int), .func (.func 60) #[] #[.pointer (some ⟨gr, 0, none⟩)]] W (SoAt23 rs w0 g c n f a b)
abbrev Crs23 (f : Nat → Nat) (a m b : Nat) : Prop := ∀ x y, a ≤ x → x < m → m ≤ y → y < b → f x < f y
def SbRel23 (rs : List Int) (w0 : World) (g c n : Nat) (f : Nat → Nat) (c0 c1 nn : Nat) (vi vj : Value) (w : World) : Prop := ∃ (s r : Nat), c0 ≤ s ∧ s ≤ r ∧ r ≤ c1 ∧ vi = .int .i64 (s : Int) ∧ vj = .int .i64 (r : Int) ∧ InR w0 g c n w f ∧ (c0 < s → ¬ LtR (rsF rs) (f (nn - 1 - (s - 1))) (f (s - 1))) ∧ (r < c1 → LtR (rsF rs) (f (nn - 1 - r)) (f r))
set_option maxRecDepth 100000 in
set_option maxHeartbeats 12800000 in
theorem symBoth_any23 (rs : List Int) (gr a m b n g c : Nat) (f : Nat → Nat) (w0 w : World) (hC : Cmp23 rs w0 gr n) (ham : a + 1 < m) (hmb : m + 1 < b) (hb : b ≤ n) (hn : n ≤ 1000) (hf : ∀ x, x < n → f x < n) (hx : Crs23 f a m b) (so1 : SoR (rsF rs) f a m) (so2 : SoR (rsF rs) f m b) (h : InR w0 g c n w f)
    (hI : ∀ (a' m' b' : Nat) (f' : Nat → Nat) (W : World), a' < m' → m' < b' → b' - a' < b - a → b' ≤ n → (∀ x, x < n → f' x < n) → Crs23 f' a' m' b' → SoR (rsF rs) f' a' m' → SoR (rsF rs) f' m' b' → InR w0 g c n W f' → SymAt23 rs w0 gr g c n f' a' m' b' W) :
    SymAt23 rs w0 gr g c n f a m b w := by
  unfold SymAt23 SoAt23 at *
  obtain ⟨d1, hd1⟩ : ∃ d1, d1 = m - a := ⟨_, rfl⟩
  obtain ⟨d2, hd2⟩ : ∃ d2, d2 = b - m := ⟨_, rfl⟩
  obtain ⟨s0, hs0⟩ : ∃ s0, s0 = a + b := ⟨_, rfl⟩
  obtain ⟨mid, hmd⟩ : ∃ mid, mid = s0 / 2 := ⟨_, rfl⟩
  obtain ⟨nn, hnn⟩ : ∃ nn, nn = mid + m := ⟨_, rfl⟩
  obtain ⟨pp, hpp⟩ : ∃ pp, pp = nn - 1 := ⟨_, rfl⟩
  obtain ⟨c0, c1, hways⟩ : ∃ c0 c1, (mid < m ∧ c0 = nn - b ∧ c1 = mid) ∨ (m ≤ mid ∧ c0 = a ∧ c1 = m) := by
    by_cases q : mid < m
    · exact ⟨_, _, .inl ⟨q, rfl, rfl⟩⟩
    · exact ⟨_, _, .inr ⟨by omega, rfl, rfl⟩⟩
  have hcc : c0 ≤ c1 ∧ ∀ q, c0 ≤ q → q < c1 → a ≤ q ∧ q < m ∧ m ≤ nn - 1 - q ∧ nn - 1 - q < b ∧ q ≤ nn - 1 := ⟨by omega, fun q q1 q2 => by omega⟩
  have hst : SbRel23 rs w0 g c n f c0 c1 nn (.int .i64 (c0 : Int)) (.int .i64 (c1 : Int)) w := ⟨c0, c1, Nat.le_refl _, hcc.1, Nat.le_refl _, rfl, rfl, h, fun q => by omega, fun q => by omega⟩
  have hcut := hidden (fun s lo hi (p : c0 ≤ s) (q : s ≤ c1) => cut_found (e := nn - s) hx so1 so2 (by omega) (by omega) (mid := mid) (n := nn) (by omega) hnn hways p q rfl lo hi)
  have hsm := hidden (fun s (p : c0 ≤ s) (q : s ≤ c1) => show s ≤ nn ∧ nn ≤ 2000 ∧ s ≤ m from by omega)
  have hfn := hidden hf
  have hI' := hidden hI
  have hC' := hidden hC
  have hx' := hidden hx
  have hst' := hidden hst
  have hcc' := hidden hcc.2
  have hq1 : ((d1 : Int) == 1) = false := by simp; omega
  have hq2 : ¬ (d1 : Int) = 1 := by omega
  have hq3 : ((d2 : Int) == 1) = false := by simp; omega
  have hq4 : ¬ (d2 : Int) = 1 := by omega
  have hw1 : IntKind.i64.wrap ((m : Int) - (a : Int)) = (d1 : Int) := by rw [IntKind.wrap_i64]; omega
  have hw2 : IntKind.i64.wrap ((b : Int) - (m : Int)) = (d2 : Int) := by rw [IntKind.wrap_i64]; omega
  have hw3 : IntKind.i64.wrap ((a : Int) + (b : Int)) = (s0 : Int) := by rw [IntKind.wrap_i64]; omega
  have hw4 : IntKind.i64.wrap ((mid : Int) + (m : Int)) = (nn : Int) := by rw [IntKind.wrap_i64]; omega
  have hw5 : IntKind.i64.wrap ((nn : Int) - 1) = (pp : Int) := by rw [IntKind.wrap_i64]; omega
  have hw6 := hidden (fun (q : mid < m) => show IntKind.i64.wrap ((nn : Int) - (b : Int)) = ((nn - b : Nat) : Int) from by rw [IntKind.wrap_i64]; omega)
  have hbnd := hidden (show mid ≤ 1000 ∧ nn ≤ 2000 ∧ pp = nn - 1 ∧ m ≤ nn from by omega)
  have hm5 := hidden (mid23 (s := s0) (p := mid) (by omega) hmd)
  clear h hf hI hC hx hst so1 so2 hd1 hd2 hs0 hmd hnn hpp hcc
  have hways' := hidden (show (mid < m ∧ (mid : Int) < (m : Int) ∧ c0 = nn - b ∧ c1 = mid) ∨ (¬ (mid : Int) < (m : Int) ∧ c0 = a ∧ c1 = m) from by
    rcases hways with ⟨q, e0, e1⟩ | ⟨q, e0, e1⟩
    · exact .inl ⟨q, by omega, e0, e1⟩
    · exact .inr ⟨by omega, e0, e1⟩)
  clear hways
  go_enter Tryd.func78, Tryd.ntmps78
  obtain ⟨hm1, hm2, hm3, hm4⟩ := hm5.out
  go_upto_if 140 with (fail)
  go_cut [20, 21] (fun u v wx => u = .int .i64 (c0 : Int) ∧ v = .int .i64 (c1 : Int) ∧ w = wx)
  case first =>
    rcases hways'.out with ⟨q, hl, e0, e1⟩ | ⟨hl, e0, e1⟩
    · have hw := hw6.out q
      rw [← e0] at hw
      replace e0 := hidden e0
      subst e1
      go_wp2_with fail
      go_meet
      exact ⟨rfl, rfl, rfl⟩
    · subst e0 e1
      go_wp2_with fail
      go_meet
      exact ⟨rfl, rfl, rfl⟩
  case rest =>
    obtain ⟨rfl, rfl, rfl⟩ := hcut
    clear hways' hw6
    go_wp2_with fail
    clear hm1 hm2 hm3 hm4 hm5
    go_loopw [20, 21] (fun vi vj wr => SbRel23 rs w0 g c n f c0 c1 nn vi vj wr) (fun vi vj _ => (RowKit.intOf vj).toNat - (RowKit.intOf vi).toNat)
    case atStart => exact hst'.out
    case round =>
      clear hst'
      obtain ⟨s, r, hs, hsr, hr1, rfl, rfl, hA, lo, hhi⟩ := hrel
      replace lo := hidden lo
      replace hhi := hidden hhi
      by_cases hlt : s < r
      · have hlI : (s : Int) < (r : Int) := by omega
        obtain ⟨z, hz⟩ : ∃ z, z = s + r := ⟨_, rfl⟩
        obtain ⟨p, hp⟩ : ∃ p, p = z / 2 := ⟨_, rfl⟩
        obtain ⟨q, hq⟩ : ∃ q, q = p + 1 := ⟨_, rfl⟩
        obtain ⟨t, ht⟩ : ∃ t, t = nn - 1 - p := ⟨_, rfl⟩
        have hbd : s ≤ p ∧ p < r := by omega
        have hin := hcc'.out p (by omega) (by omega)
        have hb5 := hbnd.out
        have hwz : IntKind.i64.wrap ((s : Int) + (r : Int)) = (z : Int) := by rw [IntKind.wrap_i64]; omega
        have hwq : IntKind.i64.wrap ((p : Int) + 1) = (q : Int) := by rw [IntKind.wrap_i64]; omega
        have hwt : IntKind.i64.wrap ((pp : Int) - (p : Int)) = (t : Int) := by rw [IntKind.wrap_i64]; omega
        have hxp := hx'.out p t (by omega) (by omega) (by omega) (by omega)
        have hCW := hidden (fun m => hC'.out (f t) (f p) (wr.drewN m) (hfn.out _ (by omega)) (hfn.out _ (by omega)) (below_drewN hA.low))
        have cp := hA.cell (i := p) (by omega)
        have ct := hA.cell (i := t) (by omega)
        have hpI : (p : Int) < (n : Int) := by omega
        have htI : (t : Int) < (n : Int) := by omega
        have hlt2 := hidden (show LtR (rsF rs) (f (nn - 1 - p)) (f p) ↔ cmpv (rsF rs (f p)) (rsF rs (f t)) < 0 from by rw [← ht]; exact lt_cmp23 hxp)
        have hm0 := hidden (mid23 (s := z) (p := p) (by omega) hp)
        replace hA := hidden hA
        have hmeas := hidden (show p - s < r - s ∧ r - q < r - s ∧ c0 ≤ q ∧ q ≤ r ∧ p ≤ c1 from by omega)
        have hq' := hidden hq
        clear hxp hz hp ht hq hin hb5
        generalize cmpv (rsF rs (f p)) (rsF rs (f t)) = rv at *
        generalize (f p : Int) = x at *
        generalize (f t : Int) = y at *
        by_cases hr : rv < 0
        · have hlo := hidden (hlt2.out.2 hr)
          have hb1 : decide (rv < 0) = true := decide_eq_true hr
          have hb2 : decide (0 ≤ rv) = false := decide_eq_false (by omega)
          obtain ⟨hm1, hm2, hm3, hm4⟩ := hm0.out
          go_wp2_with fail
          clear hm1 hm2 hm3 hm4 hm0
          go_quiet ((go_at_call 60; exact Calls.quiet_of (hCW.out _)))
          go_wp2
          go_roundw
          case rel => exact ⟨s, p, hs, hbd.1, hmeas.out.2.2.2.2, rfl, rfl, hA.out.drewN _, lo.out, fun _ => hlo.out⟩
          case measure =>
            have := hmeas.out
            simp [RowKit.intOf]; omega
        · have hlo := hidden (fun q => hr (hlt2.out.1 q))
          have hb1 : decide (rv < 0) = false := decide_eq_false hr
          have hb2 : decide (0 ≤ rv) = true := decide_eq_true (by omega)
          obtain ⟨hm1, hm2, hm3, hm4⟩ := hm0.out
          go_wp2_with fail
          clear hm1 hm2 hm3 hm4 hm0
          go_quiet ((go_at_call 60; exact Calls.quiet_of (hCW.out _)))
          go_wp2
          go_roundw
          case rel => exact ⟨q, r, hmeas.out.2.2.1, hmeas.out.2.2.2.1, hr1, rfl, rfl, hA.out.drewN _, fun _ => by rw [hq'.out]; exact hlo.out, hhi.out⟩
          case measure =>
            have := hmeas.out
            simp [RowKit.intOf]; omega
      · obtain rfl : s = r := by omega
        have hfin := hcut.out s lo.out hhi.out hs hr1
        obtain ⟨e, he⟩ : ∃ e, e = nn - s := ⟨_, rfl⟩
        rw [← he] at hfin
        obtain ⟨hct, hem, k1, k2, k3, k4⟩ := hfin
        have hse := hsm.out s hs hr1
        have hwe : IntKind.i64.wrap ((nn : Int) - (s : Int)) = (e : Int) := by rw [IntKind.wrap_i64]; omega
        have hro := hidden (fun (W : World) (q : s < m) (q2 : m < e) => rotate_any23 (.func (.func 60) #[] #[.pointer (some ⟨gr, 0, none⟩)]) s m e n g c f w0 W q q2 (by have := hct.h4; omega) hn)
        have hid := hidden (show ¬ (s < m ∧ m < e) → roF f s m e = f from fun q => by
          have i2 := hct.h2
          have i3 := hct.h3
          by_cases q2 : s = m
          · rw [q2, ro_none_l]
          · rw [show e = m from by omega, ro_none_r f s m i2])
        have hpt := hct.parts
        rw [hem] at hpt
        have hle := hct.left hx'.out
        have hri := hct.right hx'.out
        rw [hem] at hle hri
        have hfr := hidden (mix_ro f hct.h1 hct.h2 hct.h3 hct.h4)
        have hL := hidden (fun (W : World) (q : a < s) (q2 : s < mid) (hW : InR w0 g c n W (roF f s m e)) => hI'.out a s mid (roF f s m e) W q q2 (by omega) (by omega) (hfr.out.lt (by omega) hfn.out) hle hpt.1 hpt.2.1 hW)
        have hR := hidden (fun (W : World) (g1 : Nat → Nat) (q : mid < e) (q2 : e < b) (hM : Mix23 (roF f s m e) g1 a mid) (hW : InR w0 g c n W g1) => hI'.out mid e b g1 W q q2 (by omega) (by omega) (hM.lt (by omega) (hfr.out.lt (by omega) hfn.out)) (fun x y p1 p2 p3 p4 => by rw [hM.2 x (by omega), hM.2 y (by omega)]; exact hri x y p1 p2 p3 p4) (fun x y p1 p2 p3 => by rw [hM.2 x (by omega), hM.2 y (by omega)]; exact hpt.2.2.1 x y p1 p2 p3) (fun x y p1 p2 p3 => by rw [hM.2 x (by omega), hM.2 y (by omega)]; exact hpt.2.2.2 x y p1 p2 p3) hW)
        have hdn' := hidden (fun g1 g2 => hct.done (g1 := g1) (g2 := g2))
        rw [hem] at hdn'
        have hsL := hidden (show ¬ (a < s ∧ s < mid) → SoR (rsF rs) (roF f s m e) a mid from fun q => by
          have i1 := hct.h1
          by_cases q2 : s = a
          · rw [← q2]; exact hpt.2.1
          · rw [show mid = s from by omega]; exact hpt.1)
        have hsR := hidden (show ¬ (mid < e ∧ e < b) → SoR (rsF rs) (roF f s m e) mid b from fun q => by
          have i1 := hct.h4
          by_cases q2 : mid = e
          · rw [q2]; exact hpt.2.2.2
          · rw [show b = e from by omega]; exact hpt.2.2.1)
        have hk := hidden (And.intro k1 (And.intro k2 (And.intro k3 k4)))
        clear hct hem hpt hle hri he hse lo hhi k1 k2 k3 k4
        replace hA := hidden hA
        unfold TurnAt23 at hro
        clear hI'
        obtain ⟨b1, hb1⟩ : ∃ b1 : Bool, b1 = (decide (s < m) && decide (m < e)) := ⟨_, rfl⟩
        replace hb1 := hidden hb1
        go_upto_region 39 with (fail)
        go_cut [185] (fun v wx => v = .bool b1 ∧ InR w0 g c n wx f)
        case first =>
          as_aux_lemma =>
            by_cases q1 : s < m
            · have i1 : decide ((s : Int) < (m : Int)) = true := decide_eq_true (by omega)
              have i2 : (s : Int) < (m : Int) := by omega
              by_cases q2 : m < e
              · have i3 : decide ((m : Int) < (e : Int)) = true := decide_eq_true (by omega)
                have i4 : (m : Int) < (e : Int) := by omega
                have hbe := hidden (show true = b1 from by rw [hb1.out]; simp [q1, q2])
                go_wp2_with fail
                go_meet
                exact ⟨by rw [hbe.out], hA.out⟩
              · have i3 : decide ((m : Int) < (e : Int)) = false := decide_eq_false (by omega)
                have i4 : ¬ (m : Int) < (e : Int) := by omega
                have hbe := hidden (show false = b1 from by rw [hb1.out]; simp [q1, q2])
                go_wp2_with fail
                go_meet
                exact ⟨by rw [hbe.out], hA.out⟩
            · have i1 : decide ((s : Int) < (m : Int)) = false := decide_eq_false (by omega)
              have i2 : ¬ (s : Int) < (m : Int) := by omega
              have hbe := hidden (show false = b1 from by rw [hb1.out]; simp [q1])
              go_wp2_with fail
              go_meet
              exact ⟨by rw [hbe.out], hA.out⟩
        case rest =>
          obtain ⟨rfl, hA⟩ := hcut
          replace hA := hidden hA
          go_upto_if 185 with (fail)
          go_cut [185] (fun v wx => v = .bool b1 ∧ InR w0 g c n wx (roF f s m e))
          case first =>
            as_aux_lemma =>
              cases b1 with
              | true =>
                have hq : s < m ∧ m < e := by have := hb1.out; simpa using this.symm
                have hX := hidden (hro.out _ hq.1 hq.2 hA.out)
                clear hro hL hR
                go_wp2_with (go_at_call 80; (with_reducible refine hX.out.mono ?_); rintro e' w' ⟨rfl, hA2⟩)
                replace hA2 := hidden hA2
                try go_wp2
                go_meet
                exact ⟨rfl, hA2.out⟩
              | false =>
                have hq : ¬ (s < m ∧ m < e) := fun q => by have := hb1.out; simp [q.1, q.2] at this
                go_wp2_with fail
                go_meet
                exact ⟨rfl, by rw [hid.out hq]; exact hA.out⟩
          case rest =>
            obtain ⟨rfl, hA3⟩ := hcut
            clear hA hro hid
            replace hA3 := hidden hA3
            obtain ⟨b2, hb2⟩ : ∃ b2 : Bool, b2 = (decide (a < s) && decide (s < mid)) := ⟨_, rfl⟩
            replace hb2 := hidden hb2
            go_upto_region 41 with (fail)
            go_cut [199] (fun v wx => v = .bool b2 ∧ InR w0 g c n wx (roF f s m e))
            case first =>
              as_aux_lemma =>
                by_cases q1 : a < s
                · have i1 : decide ((a : Int) < (s : Int)) = true := decide_eq_true (by omega)
                  have i2 : (a : Int) < (s : Int) := by omega
                  by_cases q2 : s < mid
                  · have i3 : decide ((s : Int) < (mid : Int)) = true := decide_eq_true (by omega)
                    have i4 : (s : Int) < (mid : Int) := by omega
                    have hbe := hidden (show true = b2 from by rw [hb2.out]; simp [q1, q2])
                    go_wp2_with fail
                    go_meet
                    exact ⟨by rw [hbe.out], hA3.out⟩
                  · have i3 : decide ((s : Int) < (mid : Int)) = false := decide_eq_false (by omega)
                    have i4 : ¬ (s : Int) < (mid : Int) := by omega
                    have hbe := hidden (show false = b2 from by rw [hb2.out]; simp [q1, q2])
                    go_wp2_with fail
                    go_meet
                    exact ⟨by rw [hbe.out], hA3.out⟩
                · have i1 : decide ((a : Int) < (s : Int)) = false := decide_eq_false (by omega)
                  have i2 : ¬ (a : Int) < (s : Int) := by omega
                  have hbe := hidden (show false = b2 from by rw [hb2.out]; simp [q1])
                  go_wp2_with fail
                  go_meet
                  exact ⟨by rw [hbe.out], hA3.out⟩
            case rest =>
              obtain ⟨rfl, hA⟩ := hcut
              clear hA3
              replace hA := hidden hA
              go_upto_if 199 with (fail)
              go_cut [199] (fun v wx => v = .bool b2 ∧ ∃ g1, InR w0 g c n wx g1 ∧ Mix23 (roF f s m e) g1 a mid ∧ SoR (rsF rs) g1 a mid)
              case first =>
                as_aux_lemma =>
                  cases b2 with
                  | true =>
                    have hq : a < s ∧ s < mid := by have := hb2.out; simpa using this.symm
                    have hX := hidden (hL.out _ hq.1 hq.2 hA.out)
                    clear hL hR
                    go_wp2_with (go_at_call 78; (with_reducible refine hX.out.mono ?_); rintro e' w' ⟨rfl, g1, hA2, hA4, hA5⟩)
                    replace hA2 := hidden hA2
                    replace hA4 := hidden hA4
                    replace hA5 := hidden hA5
                    try go_wp2
                    go_meet
                    exact ⟨rfl, g1, hA2.out, hA4.out, hA5.out⟩
                  | false =>
                    have hq : ¬ (a < s ∧ s < mid) := fun q => by have := hb2.out; simp [q.1, q.2] at this
                    go_wp2_with fail
                    go_meet
                    exact ⟨rfl, _, hA.out, Mix23.refl _ _ _, hsL.out hq⟩
              case rest =>
                obtain ⟨rfl, g1, hA3, hM1, hS1⟩ := hcut
                clear hA hL hsL
                replace hA3 := hidden hA3
                replace hM1 := hidden hM1
                replace hS1 := hidden hS1
                obtain ⟨b3, hb3⟩ : ∃ b3 : Bool, b3 = (decide (mid < e) && decide (e < b)) := ⟨_, rfl⟩
                replace hb3 := hidden hb3
                go_upto_region 43 with (fail)
                go_cut [213] (fun v wx => v = .bool b3 ∧ InR w0 g c n wx g1)
                case first =>
                  as_aux_lemma =>
                    by_cases q1 : mid < e
                    · have i1 : decide ((mid : Int) < (e : Int)) = true := decide_eq_true (by omega)
                      have i2 : (mid : Int) < (e : Int) := by omega
                      by_cases q2 : e < b
                      · have i3 : decide ((e : Int) < (b : Int)) = true := decide_eq_true (by omega)
                        have i4 : (e : Int) < (b : Int) := by omega
                        have hbe := hidden (show true = b3 from by rw [hb3.out]; simp [q1, q2])
                        go_wp2_with fail
                        go_meet
                        exact ⟨by rw [hbe.out], hA3.out⟩
                      · have i3 : decide ((e : Int) < (b : Int)) = false := decide_eq_false (by omega)
                        have i4 : ¬ (e : Int) < (b : Int) := by omega
                        have hbe := hidden (show false = b3 from by rw [hb3.out]; simp [q1, q2])
                        go_wp2_with fail
                        go_meet
                        exact ⟨by rw [hbe.out], hA3.out⟩
                    · have i1 : decide ((mid : Int) < (e : Int)) = false := decide_eq_false (by omega)
                      have i2 : ¬ (mid : Int) < (e : Int) := by omega
                      have hbe := hidden (show false = b3 from by rw [hb3.out]; simp [q1])
                      go_wp2_with fail
                      go_meet
                      exact ⟨by rw [hbe.out], hA3.out⟩
                case rest =>
                  obtain ⟨rfl, hA⟩ := hcut
                  clear hA3
                  replace hA := hidden hA
                  cases b3 with
                  | true =>
                    have hq : mid < e ∧ e < b := by have := hb3.out; simpa using this.symm
                    have hX := hidden (hR.out _ g1 hq.1 hq.2 hM1.out hA.out)
                    clear hR
                    go_wp2_with (go_at_call 78; (with_reducible refine hX.out.mono ?_); rintro e' w' ⟨rfl, g2, hA2, hA4, hA5⟩)
                    have hend := hidden (hdn'.out g1 g2 hM1.out hS1.out hA4 hA5)
                    replace hA2 := hidden hA2
                    clear hA4 hA5
                    try go_wp2
                    go_end0
                    exact ⟨rfl, g2, hA2.out, hend.out⟩
                  | false =>
                    have hq : ¬ (mid < e ∧ e < b) := fun q => by have := hb3.out; simp [q.1, q.2] at this
                    have hSR := hsR.out hq
                    have hend := hidden (hdn'.out g1 g1 hM1.out hS1.out (Mix23.refl _ _ _) (fun x y p q r => by
                      have := hk.out
                      rw [hM1.out.2 x (by omega), hM1.out.2 y (by omega)]; exact hSR x y p q r))
                    clear hSR
                    go_wp2_with fail
                    go_end0
                    exact ⟨rfl, g1, hA.out, hend.out⟩
end Go.Proofs.YtlanggdmdpjfbaaDoor
