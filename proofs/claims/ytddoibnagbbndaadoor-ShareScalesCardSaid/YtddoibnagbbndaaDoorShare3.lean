/-
  slices' symMerge, where the left run is one number, or the right one.
-/
import Derived.Test.YtddoibnagbbndaaDoorShare2
namespace Go.Proofs.YtddoibnagbbndaaDoor
open Go Go.RowKit
set_option linter.unusedVariables false

theorem lt_cmp23 {rs : List Int} {x y : Nat} (h : y < x) : LtR (rsF rs) x y ↔ cmpv (rsF rs y) (rsF rs x) < 0 := by
  rw [cmpv_neg23]; unfold LtR; omega
theorem mid23 {s p : Nat} (h : s ≤ 4000) (hp : p = s / 2) : IntKind.u64.wrap (s : Int) = (s : Int) ∧ (s : Int) / 2 = (p : Int) ∧ IntKind.i64.wrap (p : Int) = (p : Int) ∧ wrap64 (p : Int) = (p : Int) := by
  have e : IntKind.i64.wrap (p : Int) = (p : Int) := by rw [IntKind.wrap_i64]; omega
  refine ⟨by rw [IntKind.wrap_u64]; omega, by omega, e, ?_⟩
  unfold wrap64
  omega
def SlRel1 (rs : List Int) (w0 : World) (g c n : Nat) (f : Nat → Nat) (a b : Nat) (vi vj : Value) (w : World) : Prop := ∃ (i j : Nat), a + 1 ≤ i ∧ i ≤ j ∧ j ≤ b ∧ vi = .int .i64 (i : Int) ∧ vj = .int .i64 (j : Int) ∧ InR w0 g c n w f ∧ (a + 1 < i → LtR (rsF rs) (f (i - 1)) (f a)) ∧ (j < b → ¬ LtR (rsF rs) (f j) (f a))
def SlRel2 (w0 : World) (g c n : Nat) (f : Nat → Nat) (a e : Nat) (vk : Value) (w : World) : Prop := ∃ k : Nat, a ≤ k ∧ k + 1 ≤ e ∧ vk = .int .i64 (k : Int) ∧ InR w0 g c n w (roF f a (a + 1) (k + 1))
set_option maxRecDepth 100000 in
set_option maxHeartbeats 6400000 in
theorem symLeft_any23 (rs : List Int) (gr a b n g c : Nat) (f : Nat → Nat) (w0 w : World) (hC : Cmp23 rs w0 gr n) (hab : a + 1 < b) (hb : b ≤ n) (hn : n ≤ 1000) (hf : ∀ x, x < n → f x < n) (hx : ∀ y, a + 1 ≤ y → y < b → f a < f y) (so2 : SoR (rsF rs) f (a + 1) b) (h : InR w0 g c n w f) :
    Calls Tryd.prog 49 #[.slice (some ⟨g, 0, none⟩) n c, .int .i64 (a : Int), .int .i64 ((a + 1 : Nat) : Int), .int .i64 (b : Int), .func (.func 31) #[] #[.pointer (some ⟨gr, 0, none⟩)]] w (SoAt23 rs w0 g c n f a b) := by
  have hst : SlRel1 rs w0 g c n f a b (.int .i64 ((a + 1 : Nat) : Int)) (.int .i64 (b : Int)) w := ⟨a + 1, b, Nat.le_refl _, by omega, Nat.le_refl _, rfl, rfl, h, fun q => by omega, fun q => by omega⟩
  have hend := hidden (fun e (h3 : a + 1 ≤ e) (h4 : e ≤ b) lo hi => one_left' hx so2 h3 h4 lo hi)
  obtain ⟨m, hm⟩ : ∃ m, m = a + 1 := ⟨_, rfl⟩
  rw [← hm] at hst ⊢
  have hw1 : IntKind.i64.wrap ((m : Int) - (a : Int)) = 1 := by rw [IntKind.wrap_i64]; omega
  replace hst := hidden hst
  replace hC := hidden hC
  replace hf := hidden hf
  replace hm := hidden hm
  replace hx := hidden hx
  unfold SoAt23
  clear h so2
  have hbI : (b : Int) ≤ 1000 := by omega
  go_enter Tryd.func49, Tryd.ntmps49
  go_wp2_with fail
  go_loopw [10, 11] (fun vi vj wr => SlRel1 rs w0 g c n f a b vi vj wr) (fun vi vj _ => (RowKit.intOf vj).toNat - (RowKit.intOf vi).toNat)
  case atStart => exact hst.out
  case round =>
    clear hst
    obtain ⟨i, j, hi, hij, hj, rfl, rfl, hA, lo, hhi⟩ := hrel
    replace lo := hidden lo
    replace hhi := hidden hhi
    by_cases hlt : i < j
    · have hlI : (i : Int) < (j : Int) := by omega
      obtain ⟨s, hs⟩ : ∃ s, s = i + j := ⟨_, rfl⟩
      obtain ⟨p, hp⟩ : ∃ p, p = s / 2 := ⟨_, rfl⟩
      obtain ⟨q, hq⟩ : ∃ q, q = p + 1 := ⟨_, rfl⟩
      have hws : IntKind.i64.wrap ((i : Int) + (j : Int)) = (s : Int) := by rw [IntKind.wrap_i64]; omega
      have hmid0 := hidden (mid23 (s := s) (p := p) (by omega) hp)
      have hwq : IntKind.i64.wrap ((p : Int) + 1) = (q : Int) := by rw [IntKind.wrap_i64]; omega
      have hbd : i ≤ p ∧ p < j := by omega
      have hxp := hx.out p (by omega) (by omega)
      have hCW := hidden (fun m => hC.out (f p) (f a) (wr.drewN m) (hf.out _ (by omega)) (hf.out _ (by omega)) (below_drewN hA.low))
      have cp := hA.cell (i := p) (by omega)
      have ca := hA.cell (i := a) (by omega)
      have hpI : (p : Int) < (n : Int) := by omega
      have haI : (a : Int) < (n : Int) := by omega
      have hlt2 := hidden (lt_cmp23 (rs := rs) hxp)
      replace hA := hidden hA
      replace hs := hidden hs
      replace hp := hidden hp
      replace hq := hidden hq
      clear hxp
      generalize cmpv (rsF rs (f a)) (rsF rs (f p)) = r at *
      generalize (f p : Int) = x at *
      generalize (f a : Int) = y at *
      obtain ⟨hmid, hmid2, hmid3, hmid4⟩ := hmid0.out
      go_wp2_with fail
      clear hmid hmid2 hmid3 hmid4 hmid0
      go_quiet ((go_at_call 31; exact Calls.quiet_of (hCW.out _)))
      by_cases hr : r < 0
      · have hlo := hidden (hlt2.out.2 hr)
        go_wp2
        go_roundw
        case rel => exact ⟨q, j, by rw [hq.out]; omega, by rw [hq.out]; omega, hj, rfl, rfl, hA.out.drewN _, fun _ => by rw [hq.out]; exact hlo.out, hhi.out⟩
        case measure =>
          have := hq.out
          simp [RowKit.intOf]; omega
      · have hlo := hidden (fun q => hr (hlt2.out.1 q))
        go_wp2
        go_roundw
        case rel => exact ⟨i, p, hi, hbd.1, by omega, rfl, rfl, hA.out.drewN _, lo.out, fun _ => hlo.out⟩
        case measure => simp [RowKit.intOf]; omega
    · obtain rfl : i = j := by omega
      have hfin := hidden (hend.out i hi hj lo.out hhi.out)
      obtain ⟨e, he⟩ : ∃ e, e = i - 1 := ⟨_, rfl⟩
      have hwe : IntKind.i64.wrap ((i : Int) - 1) = (e : Int) := by rw [IntKind.wrap_i64]; omega
      have hst2 : SlRel2 w0 g c n f a i (.int .i64 (a : Int)) wr := ⟨a, Nat.le_refl _, hi, rfl, by rw [ro_none_r f a (a + 1) (by omega)]; exact hA⟩
      replace hst2 := hidden hst2
      clear hA lo hhi
      go_wp2_with fail
      go_loopw [13] (fun vk wr => SlRel2 w0 g c n f a i vk wr) (fun vk _ => i - (RowKit.intOf vk).toNat)
      case atStart => exact hst2.out
      case round =>
        clear hst2
        obtain ⟨k, hk1, hk2, rfl, hA⟩ := hrel
        by_cases hlk : k + 1 < i
        · have hkI : (k : Int) < (e : Int) := by omega
          obtain ⟨q, hq⟩ : ∃ q, q = k + 1 := ⟨_, rfl⟩
          have hwq : IntKind.i64.wrap ((k : Int) + 1) = (q : Int) := by rw [IntKind.wrap_i64]; omega
          have cp := hA.cell (i := k) (by omega)
          have cq := hA.cell (i := q) (by omega)
          have fp := hA.frozen k
          have fq := hA.frozen q
          have hne : ¬ k = q := by omega
          have hknI : (k : Int) < (n : Int) := by omega
          have hqnI : (q : Int) < (n : Int) := by omega
          have hA2 := hidden (hA.swap k q)
          have hsw := hidden (show swp23 (roF f a (a + 1) (k + 1)) k q = roF f a (a + 1) (q + 1) from by rw [hq]; exact ro_up f hk1)
          have hbd := hidden (show a ≤ q ∧ q + 1 ≤ i ∧ k < q from by omega)
          replace hq := hidden hq
          clear hA
          generalize (roF f a (a + 1) (k + 1) k : Int) = x at *
          generalize (roF f a (a + 1) (k + 1) q : Int) = y at *
          go_wp2_with fail
          go_region
          all_goals
            go_wp2
            go_roundw
            case rel => exact ⟨q, hbd.out.1, hbd.out.2.1, rfl, by rw [← hsw.out]; exact hA2.out.drew⟩
            case measure =>
              have := hbd.out
              simp [RowKit.intOf]; omega
        · obtain rfl : i = k + 1 := by omega
          have hkI : ¬ (k : Int) < (e : Int) := by omega
          replace hA := hidden hA
          go_wp2
          (try simp only [Exit.inBlock, Exit.then])
          refine bodyPost_ret (results_none rfl _ _ _) rfl ?_
          exact ⟨rfl, _, hA.out, hfin.out⟩

def SrRel1 (rs : List Int) (w0 : World) (g c n : Nat) (f : Nat → Nat) (a m : Nat) (vi vj : Value) (w : World) : Prop := ∃ (i j : Nat), a ≤ i ∧ i ≤ j ∧ j ≤ m ∧ vi = .int .i64 (i : Int) ∧ vj = .int .i64 (j : Int) ∧ InR w0 g c n w f ∧ (a < i → ¬ LtR (rsF rs) (f m) (f (i - 1))) ∧ (j < m → LtR (rsF rs) (f m) (f j))
def SrRel2 (w0 : World) (g c n : Nat) (f : Nat → Nat) (s m : Nat) (vk : Value) (w : World) : Prop := ∃ k : Nat, s ≤ k ∧ k ≤ m ∧ vk = .int .i64 (k : Int) ∧ InR w0 g c n w (roF f k m (m + 1))
set_option maxRecDepth 100000 in
set_option maxHeartbeats 6400000 in
theorem symRight_any23 (rs : List Int) (gr a m n g c : Nat) (f : Nat → Nat) (w0 w : World) (hC : Cmp23 rs w0 gr n) (ham : a + 1 < m) (hb : m + 1 ≤ n) (hn : n ≤ 1000) (hf : ∀ x, x < n → f x < n) (hx : ∀ y, a ≤ y → y < m → f y < f m) (so1 : SoR (rsF rs) f a m) (h : InR w0 g c n w f) :
    Calls Tryd.prog 49 #[.slice (some ⟨g, 0, none⟩) n c, .int .i64 (a : Int), .int .i64 (m : Int), .int .i64 ((m + 1 : Nat) : Int), .func (.func 31) #[] #[.pointer (some ⟨gr, 0, none⟩)]] w (SoAt23 rs w0 g c n f a (m + 1)) := by
  have hst : SrRel1 rs w0 g c n f a m (.int .i64 (a : Int)) (.int .i64 (m : Int)) w := ⟨a, m, Nat.le_refl _, by omega, Nat.le_refl _, rfl, rfl, h, fun q => by omega, fun q => by omega⟩
  have hend := hidden (fun s (h1 : a ≤ s) (h2 : s ≤ m) lo hi => one_right' hx so1 h1 h2 lo hi)
  obtain ⟨b, hbm⟩ : ∃ b, b = m + 1 := ⟨_, rfl⟩
  rw [← hbm]
  have hw1 : IntKind.i64.wrap ((b : Int) - (m : Int)) = 1 := by rw [IntKind.wrap_i64]; omega
  obtain ⟨d, hd⟩ : ∃ d, d = m - a := ⟨_, rfl⟩
  have hw2 : IntKind.i64.wrap ((m : Int) - (a : Int)) = (d : Int) := by rw [IntKind.wrap_i64]; omega
  have hd1 : ((d : Int) == 1) = false := by simp; omega
  have hd2 : ¬ (d : Int) = 1 := by omega
  replace hst := hidden hst
  replace hC := hidden hC
  replace hf := hidden hf
  replace hx := hidden hx
  replace hbm := hidden hbm
  unfold SoAt23
  clear h so1 hd
  have hbI : (m : Int) ≤ 1000 := by omega
  have hmnI : (m : Int) < (n : Int) := by omega
  go_enter Tryd.func49, Tryd.ntmps49
  go_wp2_with fail
  go_loopw [14, 15] (fun vi vj wr => SrRel1 rs w0 g c n f a m vi vj wr) (fun vi vj _ => (RowKit.intOf vj).toNat - (RowKit.intOf vi).toNat)
  case atStart => exact hst.out
  case round =>
    clear hst
    obtain ⟨i, j, hi, hij, hj, rfl, rfl, hA, lo, hhi⟩ := hrel
    replace lo := hidden lo
    replace hhi := hidden hhi
    by_cases hlt : i < j
    · have hlI : (i : Int) < (j : Int) := by omega
      obtain ⟨s, hs⟩ : ∃ s, s = i + j := ⟨_, rfl⟩
      obtain ⟨p, hp⟩ : ∃ p, p = s / 2 := ⟨_, rfl⟩
      obtain ⟨q, hq⟩ : ∃ q, q = p + 1 := ⟨_, rfl⟩
      have hws : IntKind.i64.wrap ((i : Int) + (j : Int)) = (s : Int) := by rw [IntKind.wrap_i64]; omega
      have hmid0 := hidden (mid23 (s := s) (p := p) (by omega) hp)
      have hwq : IntKind.i64.wrap ((p : Int) + 1) = (q : Int) := by rw [IntKind.wrap_i64]; omega
      have hbd : i ≤ p ∧ p < j := by omega
      have hxp := hx.out p (by omega) (by omega)
      have hCW := hidden (fun k => hC.out (f m) (f p) (wr.drewN k) (hf.out _ (by omega)) (hf.out _ (by omega)) (below_drewN hA.low))
      have cp := hA.cell (i := p) (by omega)
      have cm := hA.cell (i := m) (by omega)
      have hpI : (p : Int) < (n : Int) := by omega
      have hlt2 := hidden (lt_cmp23 (rs := rs) hxp)
      replace hA := hidden hA
      replace hs := hidden hs
      replace hp := hidden hp
      replace hq := hidden hq
      clear hxp
      generalize cmpv (rsF rs (f p)) (rsF rs (f m)) = r at *
      generalize (f p : Int) = x at *
      generalize (f m : Int) = y at *
      by_cases hr : r < 0
      · have hlo := hidden (hlt2.out.2 hr)
        have hb1 : decide (r < 0) = true := decide_eq_true hr
        have hb2 : decide (0 ≤ r) = false := decide_eq_false (by omega)
        obtain ⟨hmid, hmid2, hmid3, hmid4⟩ := hmid0.out
        go_wp2_with fail
        clear hmid hmid2 hmid3 hmid4 hmid0
        go_quiet ((go_at_call 31; exact Calls.quiet_of (hCW.out _)))
        go_wp2
        go_roundw
        case rel => exact ⟨i, p, hi, hbd.1, by omega, rfl, rfl, hA.out.drewN _, lo.out, fun _ => hlo.out⟩
        case measure => simp [RowKit.intOf]; omega
      · have hlo := hidden (fun q => hr (hlt2.out.1 q))
        have hb1 : decide (r < 0) = false := decide_eq_false hr
        have hb2 : decide (0 ≤ r) = true := decide_eq_true (by omega)
        obtain ⟨hmid, hmid2, hmid3, hmid4⟩ := hmid0.out
        go_wp2_with fail
        clear hmid hmid2 hmid3 hmid4 hmid0
        go_quiet ((go_at_call 31; exact Calls.quiet_of (hCW.out _)))
        go_wp2
        go_roundw
        case rel => exact ⟨q, j, by rw [hq.out]; omega, by rw [hq.out]; omega, hj, rfl, rfl, hA.out.drewN _, fun _ => by rw [hq.out]; exact hlo.out, hhi.out⟩
        case measure =>
          have := hq.out
          simp [RowKit.intOf]; omega
    · obtain rfl : i = j := by omega
      have hfin := hidden (hend.out i hi hj lo.out hhi.out)
      rw [← hbm.out] at hfin
      have hst2 : SrRel2 w0 g c n f i m (.int .i64 (m : Int)) wr := ⟨m, hj, Nat.le_refl _, rfl, by rw [ro_none_l]; exact hA⟩
      replace hst2 := hidden hst2
      clear hA lo hhi
      go_wp2_with fail
      go_loopw [17] (fun vk wr => SrRel2 w0 g c n f i m vk wr) (fun vk _ => (RowKit.intOf vk).toNat)
      case atStart => exact hst2.out
      case round =>
        clear hst2
        obtain ⟨k, hk1, hk2, rfl, hA⟩ := hrel
        by_cases hlk : i < k
        · have hkI : (i : Int) < (k : Int) := by omega
          obtain ⟨q, hq⟩ : ∃ q, q = k - 1 := ⟨_, rfl⟩
          have hwq : IntKind.i64.wrap ((k : Int) - 1) = (q : Int) := by rw [IntKind.wrap_i64]; omega
          have cp := hA.cell (i := k) (by omega)
          have cq := hA.cell (i := q) (by omega)
          have fp := hA.frozen k
          have fq := hA.frozen q
          have hne : ¬ k = q := by omega
          have hknI : (k : Int) < (n : Int) := by omega
          have hqnI : (q : Int) < (n : Int) := by omega
          have hA2 := hidden (hA.swap k q)
          have hsw := hidden (show swp23 (roF f k m (m + 1)) k q = roF f q m (m + 1) from by
            obtain rfl : k = q + 1 := by omega
            exact ro_down f (by omega))
          have hbd := hidden (show i ≤ q ∧ q ≤ m ∧ q < k from by omega)
          replace hq := hidden hq
          clear hA
          generalize (roF f k m (m + 1) k : Int) = x at *
          generalize (roF f k m (m + 1) q : Int) = y at *
          go_wp2_with fail
          go_region
          all_goals
            go_wp2
            go_roundw
            case rel => exact ⟨q, hbd.out.1, hbd.out.2.1, rfl, by rw [← hsw.out]; exact hA2.out.drew⟩
            case measure =>
              have := hbd.out
              simp [RowKit.intOf]; omega
        · obtain rfl : i = k := by omega
          rw [← hbm.out] at hA
          replace hA := hidden hA
          go_wp2
          (try simp only [Exit.inBlock, Exit.then])
          refine bodyPost_ret (results_none rfl _ _ _) rfl ?_
          exact ⟨rfl, _, hA.out, hfin.out⟩
end Go.Proofs.YtddoibnagbbndaaDoor
