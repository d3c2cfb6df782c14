/-
  falling's comparison; slices' insertion sort.
-/
import Derived.Test.YtddoibnagbbndaaDoorShare1
import Derived.Test.YtddoibnagbbndaaDoorFix
namespace Go.Proofs.YtddoibnagbbndaaDoor
open Go Go.RowKit
set_option linter.unusedVariables false

theorem cmpv_neg23 {x y : Int} : cmpv x y < 0 ↔ x < y := by
  unfold cmpv
  by_cases h : x < y
  · rw [if_pos h]; simp [h]
  · rw [if_neg h]
    by_cases h2 : y < x
    · rw [if_pos h2]; omega
    · rw [if_neg h2]; omega
/-- the rests, in a variable that a closure holds. -/
def RsIn (w : World) (gr : Nat) (rs : List Int) : Prop := ∃ v, w.cell? ⟨gr, 0, none⟩ = some v ∧ Reads .i64 w v rs
theorem RsIn.below {w w' : World} {gr : Nat} {rs : List Int} (h : RsIn w gr rs) (hb : Below w.heap.size w w') : RsIn w' gr rs := by
  obtain ⟨v, h1, h2⟩ := h
  exact ⟨v, by rw [World.cell?_of_block (w := w) (hb.block gr (World.block_lt_of_cell? w _ h1))]; exact h1, h2.below hb (Nat.le_refl _)⟩
def rsF (rs : List Int) (i : Nat) : Int := rs.getD i 0
set_option maxRecDepth 100000 in
set_option maxHeartbeats 3200000 in
theorem ahead_any23 (gr i j : Nat) (rs : List Int) (w : World) (h : RsIn w gr rs) (hi : i < rs.length) (hj : j < rs.length) :
    Calls Tryd.prog 31 #[.int .i64 (i : Int), .int .i64 (j : Int), .pointer (some ⟨gr, 0, none⟩)] w fun e w' => e = .returned (.int .i64 (cmpv (rsF rs j) (rsF rs i))) ∧ ∃ k, w' = w.drewN k := by
  obtain ⟨v, h1, h2⟩ := h
  obtain ⟨b, o, c, rfl⟩ := reads_some h2 (by omega)
  obtain ⟨b1, o1, e1, ci⟩ := h2.cell i hi
  obtain ⟨b2, o2, e2, cj⟩ := h2.cell j hj
  simp only [Option.some.injEq, Addr.mk.injEq, and_true] at e1 e2
  obtain ⟨rfl, rfl⟩ := e1
  obtain ⟨rfl, rfl⟩ := e2
  have hiI : (i : Int) < (rs.length : Int) := by omega
  have hjI : (j : Int) < (rs.length : Int) := by omega
  unfold rsF
  have hI : ∀ W, Calls Tryd.prog 32 #[.int .i64 (rs.getD j 0), .int .i64 (rs.getD i 0)] W fun e w' => e = .returned (.int .i64 (cmpv (rs.getD j 0) (rs.getD i 0))) ∧ w' = W := fun W => (cmpI_any _ _ W).mono fun _ _ q => ⟨q.1, q.2.symm⟩
  replace hI := hidden hI
  generalize hr : cmpv (rs.getD j 0) (rs.getD i 0) = r at *
  replace hr := hidden hr
  generalize rs.getD i 0 = x at *
  generalize rs.getD j 0 = y at *
  generalize rs.length = len at *
  clear h2 hi hj
  go_enter Tryd.func31, Tryd.ntmps31
  go_wp2_with fail
  go_quiet ((go_at_call 32; exact Calls.quiet_of_same (hI.out _)))
  go_wp2
  go_ret
  exact ⟨rfl, _, rfl⟩

/-- what a call leaves that puts the row in order from a to b. -/
def SoAt23 (rs : List Int) (w0 : World) (g c n : Nat) (f : Nat → Nat) (a b : Nat) (e : Ending) (w' : World) : Prop := e = .returned (.tuple #[]) ∧ ∃ f', InR w0 g c n w' f' ∧ Mix23 f f' a b ∧ SoR (rsF rs) f' a b
def IsRel1_23 (rs : List Int) (w0 : World) (g c n : Nat) (f : Nat → Nat) (a b : Nat) (i : Value) (w : World) : Prop := ∃ (k : Nat) (f' : Nat → Nat), a + 1 ≤ k ∧ k ≤ b ∧ i = .int .i64 (k : Int) ∧ InR w0 g c n w f' ∧ Mix23 f f' a k ∧ SoR (rsF rs) f' a k
def IsRel2_23 (rs : List Int) (w0 : World) (g c n : Nat) (f : Nat → Nat) (a k : Nat) (i : Value) (w : World) : Prop := ∃ (j : Nat) (h : Nat → Nat), a ≤ j ∧ j ≤ k ∧ i = .int .i64 (j : Int) ∧ InR w0 g c n w h ∧ InsI (rsF rs) f h a k j
/-- the comparison, in each world in which all that lay in w0 lies as it was. -/
abbrev Cmp23 (rs : List Int) (w0 : World) (gr n : Nat) : Prop := ∀ (x y : Nat) (W : World), x < n → y < n → Below w0.heap.size w0 W → Calls Tryd.prog 31 #[.int .i64 (x : Int), .int .i64 (y : Int), .pointer (some ⟨gr, 0, none⟩)] W fun e w' => e = .returned (.int .i64 (cmpv (rsF rs y) (rsF rs x))) ∧ ∃ k, w' = W.drewN k
theorem cmp_in23 {rs : List Int} {w0 : World} {gr n : Nat} (h : RsIn w0 gr rs) (hn : rs.length = n) : Cmp23 rs w0 gr n := fun x y W hx hy hW => ahead_any23 gr x y rs W (h.below hW) (by omega) (by omega)
set_option maxRecDepth 100000 in
set_option maxHeartbeats 6400000 in
theorem isort_any23 (rs : List Int) (gr a b n g c : Nat) (f : Nat → Nat) (w0 w : World) (hC : Cmp23 rs w0 gr n) (hab : a < b) (hb : b ≤ n) (hn : n ≤ 1000) (hf : ∀ x, x < n → f x < n) (hup : ∀ x y, a ≤ x → x < y → y < b → f x < f y) (h : InR w0 g c n w f) :
    Calls Tryd.prog 48 #[.slice (some ⟨g, 0, none⟩) n c, .int .i64 (a : Int), .int .i64 (b : Int), .func (.func 31) #[] #[.pointer (some ⟨gr, 0, none⟩)]] w (SoAt23 rs w0 g c n f a b) := by
  have hst : IsRel1_23 rs w0 g c n f a b (.int .i64 ((a + 1 : Nat) : Int)) w := ⟨a + 1, f, Nat.le_refl _, hab, rfl, h, Mix23.refl _ _ _, SoR.none (by omega)⟩
  obtain ⟨a', ha'⟩ : ∃ a', a' = a + 1 := ⟨_, rfl⟩
  rw [← ha'] at hst
  have hw1 : IntKind.i64.wrap ((a : Int) + 1) = (a' : Int) := by rw [IntKind.wrap_i64]; omega
  replace hst := hidden hst
  replace hC := hidden hC
  replace hf := hidden hf
  replace hup := hidden hup
  unfold SoAt23
  clear h ha'
  have hbI : (b : Int) ≤ 1000 := by omega
  go_enter Tryd.func48, Tryd.ntmps48
  go_wp2_with fail
  go_loopw [8] (fun i wr => IsRel1_23 rs w0 g c n f a b i wr) (fun i _ => b - (RowKit.intOf i).toNat)
  case atStart => exact hst.out
  case round =>
    clear hst hw1
    obtain ⟨k, f', hk1, hk, rfl, hA, hmix, hso⟩ := hrel
    by_cases hlt : k < b
    · have hlI : (k : Int) < (b : Int) := by omega
      have hin := hidden (show InsI (rsF rs) f f' a k k from ins_first hmix hso (fun x q1 q2 => hup.out x k q1 q2 hlt))
      replace hA := hidden hA
      clear hmix hso
      go_wp2_with fail
      go_loopw [9] (fun i wr => IsRel2_23 rs w0 g c n f a k i wr) (fun i _ => (RowKit.intOf i).toNat)
      case atStart => exact ⟨k, f', by omega, Nat.le_refl _, rfl, hA.out, hin.out⟩
      case round =>
        clear hA hin
        obtain ⟨j, h, hj1, hj2, rfl, hA, hin⟩ := hrel
        replace hin := hidden hin
        by_cases hja : a < j
        · obtain ⟨p, rfl⟩ : ∃ p, j = p + 1 := ⟨j - 1, by omega⟩
          have hd : decide ((a : Int) < ((p + 1 : Nat) : Int)) = true := decide_eq_true (by omega)
          have hd2 : decide ((a : Int) < (p : Int) + 1) = true := decide_eq_true (by omega)
          have hwp2 : IntKind.i64.wrap ((p : Int) + 1 - 1) = (p : Int) := by rw [IntKind.wrap_i64]; omega
          have hwp3 : IntKind.i64.wrap (p : Int) = (p : Int) := by rw [IntKind.wrap_i64]; omega
          have hxn : h (p + 1) < n := hin.out.mix.lt (by omega) hf.out _ (by omega)
          have hyn : h p < n := hin.out.mix.lt (by omega) hf.out _ (by omega)
          have hval : h p < h (p + 1) := by rw [hin.out.val]; exact hin.out.oth p (by omega) (by omega) (by omega)
          have hCW := hidden (fun m => hC.out (h (p + 1)) (h p) (wr.drewN m) hxn hyn (below_drewN hA.low))
          have hCW0 := hidden (hC.out (h (p + 1)) (h p) wr hxn hyn hA.low)
          have cj := hA.cell (i := p + 1) (by omega)
          have cp := hA.cell (i := p) (by omega)
          have hwp : IntKind.i64.wrap (((p + 1 : Nat) : Int) - 1) = (p : Int) := by rw [IntKind.wrap_i64]; omega
          have hpI : (p : Int) < (n : Int) := by omega
          have hpI2 : (p : Int) + 1 < (n : Int) := by omega
          have hp0 : (0 : Int) ≤ (p : Int) + 1 := by omega
          have hlt2 := hidden (show LtR (rsF rs) (h (p + 1)) (h p) ↔ cmpv (rsF rs (h p)) (rsF rs (h (p + 1))) < 0 from by
            rw [cmpv_neg23]; unfold LtR; omega)
          have fj := hA.frozen (p + 1)
          have fp := hA.frozen p
          have hA2 := hidden (fun m => (hA.drewN m).swap (p + 1) p)
          replace hA := hidden hA
          clear hval hxn hyn
          generalize cmpv (rsF rs (h p)) (rsF rs (h (p + 1))) = r at *
          generalize (h (p + 1) : Int) = x at *
          generalize (h p : Int) = y at *
          go_wp2_with fail
          go_quiet ((go_at_call 31; exact Calls.quiet_of (hCW.out _)))
          by_cases hr : r < 0
          · have hin2 := hidden (hin.out.step (by omega) (by omega) (hlt2.out.2 hr))
            go_wp2_with fail
            go_region
            all_goals
              go_wp2
              go_roundw
              case rel => exact ⟨p, _, by omega, by omega, rfl, hA2.out _, hin2.out⟩
              case measure => simp [RowKit.intOf]
          · have hin2 := hidden (hin.out.stop (by omega) hj2 (fun _ => by
              rw [Nat.add_sub_cancel]; exact fun q => hr (hlt2.out.1 q)))
            go_wp2
            go_roundw
            case rel => exact ⟨k + 1, h, by omega, hlt, by go_num, hA.out.drewN _, hin2.out.1, hin2.out.2⟩
            case measure => simp [RowKit.intOf]; omega
        · obtain rfl : j = a := by omega
          have hd : decide ((j : Int) < (j : Int)) = false := decide_eq_false (by omega)
          have hin2 := hidden (hin.out.stop (by omega) hj2 (fun q => by omega))
          replace hA := hidden hA
          go_wp2_with fail
          go_quiet (fail)
          go_wp2
          go_roundw
          case rel => exact ⟨k + 1, h, by omega, hlt, by go_num, hA.out.drewN _, hin2.out.1, hin2.out.2⟩
          case measure => simp [RowKit.intOf]; omega
    · obtain rfl : k = b := by omega
      replace hA := hidden hA
      replace hmix := hidden hmix
      replace hso := hidden hso
      go_wp2
      go_end0
      exact ⟨rfl, _, hA.out, hmix.out, hso.out⟩
end Go.Proofs.YtddoibnagbbndaaDoor
