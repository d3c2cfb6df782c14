/-
  The chapter's example; pledgeref.SameOp.
-/
import Derived.Test.YtongpgnnhpbcpaaGreatDoorOp8
namespace Go.Proofs.YtongpgnnhpbcpaaGreatDoor
open Go.RowKit
set_option linter.unusedVariables false

def ex25 : Opv := ⟨7, 10, 1, 2, 0, 0, 100, 0⟩
theorem ex25_ok : opE ex25 = 0 := by decide +kernel
theorem ex25_text : txS ex25 = [55, 32, 100, 101, 112, 111, 115, 105, 116, 32, 49, 32, 50, 32, 49, 48, 48] := by
  have i7 : Lib.itoa 7 = [55] := by rw [show (7 : Int) = ((7 : Nat) : Int) from rfl, itoa_nat, Lib.decDigits_one (by decide)]; rfl
  have i1 : Lib.itoa 1 = [49] := by rw [show (1 : Int) = ((1 : Nat) : Int) from rfl, itoa_nat, Lib.decDigits_one (by decide)]; rfl
  have i2 : Lib.itoa 2 = [50] := by rw [show (2 : Int) = ((2 : Nat) : Int) from rfl, itoa_nat, Lib.decDigits_one (by decide)]; rfl
  have i100 : Lib.itoa 100 = [49, 48, 48] := by
    rw [show (100 : Int) = ((100 : Nat) : Int) from rfl, itoa_nat, Lib.decDigits, dif_neg (by decide), Lib.decDigits, dif_neg (by decide), Lib.decDigits_one (by decide)]
    rfl
  have e : txW ex25 = [Lib.itoa 7, nmS 10, Lib.itoa 1, Lib.itoa 2, Lib.itoa 100] := rfl
  unfold txS
  rw [e, i7, i1, i2, i100]
  decide +kernel
theorem law25_first (A : Nat → Addr) (w : World) (hE : OpEnv A w) : Calls Tryz.prog 4 #[] w fun e w' => e = .returned (.bool true) ∧ Below w.heap.size w w' := by
  have hT := hidden (opText_good A ex25 w hE ex25_ok)
  rw [ex25_text] at hT
  clear hE
  go_enter Tryz.func4, Tryz.ntmps4
  go_wp2_with fail
  refine hT.out.mono ?_
  rintro e w1 ⟨rfl, hb⟩
  replace hb := hidden hb
  go_wp2
  go_ret
  exact ⟨rfl, hb.out⟩
def sameO (o p : Opv) : Bool := o.id == p.id && o.kd == p.kd && o.a == p.a && o.b == p.b && o.c == p.c && o.d == p.d && o.n == p.n && o.m == p.m
theorem sameO_iff (o p : Opv) : sameO o p = true ↔ o = p := by
  obtain ⟨a0, a1, a2, a3, a4, a5, a6, a7⟩ := o
  obtain ⟨b0, b1, b2, b3, b4, b5, b6, b7⟩ := p
  simp [sameO, and_assoc]
theorem sameO_self (o : Opv) : sameO o o = true := (sameO_iff o o).2 rfl
set_option maxRecDepth 100000 in
set_option maxHeartbeats 3200000 in
theorem sameOp_any (o p : Opv) (w : World) : Calls Tryz.prog 20 #[opV o, opV p] w fun e w' => e = .returned (.bool (sameO o p)) ∧ Below w.heap.size w w' := by
  have hb := hidden (((Below.refl w.heap.size w).alloc (Nat.le_refl _) (opO o)).alloc (by simp) (opO p))
  obtain ⟨a0, a1, a2, a3, a4, a5, a6, a7⟩ := o
  obtain ⟨b0, b1, b2, b3, b4, b5, b6, b7⟩ := p
  have hx := hidden (show sameO ⟨a0, a1, a2, a3, a4, a5, a6, a7⟩ ⟨b0, b1, b2, b3, b4, b5, b6, b7⟩ = (a0 == b0 && a1 == b1 && a2 == b2 && a3 == b3 && a4 == b4 && a5 == b5 && a6 == b6 && a7 == b7) from rfl)
  cases h0 : a0 == b0
  · go_enter Tryz.func20, Tryz.ntmps20
    go_wp2
    go_ret
    exact ⟨ret_bool (by rw [hx.out]; simp [h0]), hb.out⟩
  cases h1 : a1 == b1
  · go_enter Tryz.func20, Tryz.ntmps20
    go_wp2
    go_ret
    exact ⟨ret_bool (by rw [hx.out]; simp [h0, h1]), hb.out⟩
  cases h2 : a2 == b2
  · go_enter Tryz.func20, Tryz.ntmps20
    go_wp2
    go_ret
    exact ⟨ret_bool (by rw [hx.out]; simp [h0, h1, h2]), hb.out⟩
  cases h3 : a3 == b3
  · go_enter Tryz.func20, Tryz.ntmps20
    go_wp2
    go_ret
    exact ⟨ret_bool (by rw [hx.out]; simp [h0, h1, h2, h3]), hb.out⟩
  cases h4 : a4 == b4
  · go_enter Tryz.func20, Tryz.ntmps20
    go_wp2
    go_ret
    exact ⟨ret_bool (by rw [hx.out]; simp [h0, h1, h2, h3, h4]), hb.out⟩
  cases h5 : a5 == b5
  · go_enter Tryz.func20, Tryz.ntmps20
    go_wp2
    go_ret
    exact ⟨ret_bool (by rw [hx.out]; simp [h0, h1, h2, h3, h4, h5]), hb.out⟩
  cases h6 : a6 == b6
  · go_enter Tryz.func20, Tryz.ntmps20
    go_wp2
    go_ret
    exact ⟨ret_bool (by rw [hx.out]; simp [h0, h1, h2, h3, h4, h5, h6]), hb.out⟩
  cases h7 : a7 == b7
  · go_enter Tryz.func20, Tryz.ntmps20
    go_wp2
    go_ret
    exact ⟨ret_bool (by rw [hx.out]; simp [h0, h1, h2, h3, h4, h5, h6, h7]), hb.out⟩
  · go_enter Tryz.func20, Tryz.ntmps20
    go_wp2
    go_ret
    exact ⟨ret_bool (by rw [hx.out]; simp [h0, h1, h2, h3, h4, h5, h6, h7]), hb.out⟩
end Go.Proofs.YtongpgnnhpbcpaaGreatDoor
