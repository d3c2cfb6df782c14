/-
  The document's keys, and its reader of numbers.
-/
import Derived.Test.YtongpgnnhpbcpaaGreatDoorRec3
import Derived.Test.YtongpgnnhpbcpaaGreatDoorRec4
namespace Go.Proofs.YtongpgnnhpbcpaaGreatDoor
open Go.RowKit
set_option linter.unusedVariables false

/-! pledgeref5.Key -/
theorem own_one (w : World) (u : Value) (e : TypeId) : (w.alloc (.cells #[u] e)).ownsRow w.heap.size e 1 (.slice (some ⟨w.heap.size, 0, none⟩) 1 1) 1 [u] :=
  ⟨by simp, .inr ⟨w.heap.size, 1, #[u], rfl, Nat.le_refl _, heap_alloc_new w _, Nat.le_refl _, by unfold maxLen; decide, by simp, by simp⟩⟩
def KeyRel (A : List Int) (x : Int) (B : Nat) (w0 : World) (v i : Value) (w : World) : Prop :=
  ∃ k : Nat, k ≤ 5 ∧ i = .int .i64 (4 - (k : Int)) ∧ w.ownsRow B 5 1 v (A.length + k) (cb (A ++ (beb 5 x).take k)) ∧ Below B w0 w
theorem key_byte {x : Int} {k : Nat} (hk : k < 5) : x / 2 ^ (8 * (4 - (k : Int))).toNat = x / 256 ^ (4 - k) := by
  rw [show (8 * (4 - (k : Int))).toNat = 8 * (4 - k) by omega, show (2 : Int) ^ (8 * (4 - k)) = 256 ^ (4 - k) by rw [Int.pow_mul]; rfl]
theorem key_step {A : List Int} {x : Int} {k : Nat} (hk : k < 5) : cb (A ++ (beb 5 x).take k) ++ [.int .u8 (x / 256 ^ (4 - k) % 256)] = cb (A ++ (beb 5 x).take (k + 1)) := by
  rw [beb_take 5 x k hk, ← List.append_assoc, cb_snoc]
def RKeyAt (p a b : Int) (w : World) (e : Ending) (w' : World) : Prop := ∃ v, e = .returned (.tuple #[v, .int .i64 0]) ∧ Reads .u8 w' v (keyB p a b) ∧ Below w.heap.size w w'
theorem keyOk_not6r {p a b : Int} (h : ¬ keyOk p a b) : (decide (p < 0) = true) ∨ (decide (p < 0) = false ∧ decide (255 < p) = true) ∨ (decide (p < 0) = false ∧ decide (255 < p) = false ∧ decide (a < 0) = true) ∨ (decide (p < 0) = false ∧ decide (255 < p) = false ∧ decide (a < 0) = false ∧ decide (1099511627776 ≤ a) = true) ∨
    (decide (p < 0) = false ∧ decide (255 < p) = false ∧ decide (a < 0) = false ∧ decide (1099511627776 ≤ a) = false ∧ decide (b < 0) = true) ∨ (decide (p < 0) = false ∧ decide (255 < p) = false ∧ decide (a < 0) = false ∧ decide (1099511627776 ≤ a) = false ∧ decide (b < 0) = false ∧ decide (1099511627776 ≤ b) = true) := by
  unfold keyOk at h
  simp only [decide_eq_true_iff, decide_eq_false_iff_not]
  omega
theorem results_tmp4 {fn : Func} {t u v x : Tmp} (h : fn.results = #[.tmp t, .tmp u, .tmp v, .tmp x]) (tmps : Array Value) (P : Program) (w : World) :
    (results fn tmps).run P w = .ok (.tuple #[tmps.getD t undef, tmps.getD u undef, tmps.getD v undef, tmps.getD x undef]) w := by
  simp [results, h]
def RReadAt (xs : List Int) (w0 : World) (a b i : Value) (w : World) : Prop :=
  ∃ j : Nat, 1 ≤ j ∧ j ≤ 6 ∧ i = .int .i64 (j : Int) ∧ a = .int .i64 (unbe ((xs.drop 1).take (j - 1))) ∧ b = .int .i64 (unbe ((xs.drop 6).take (j - 1))) ∧ w0 = w
theorem drop_take_next {xs : List Int} {o j : Nat} (h : 1 ≤ j) (hl : o + j ≤ xs.length) : unbe ((xs.drop o).take j) = unbe ((xs.drop o).take (j - 1)) * 256 + xs.getD (o + (j - 1)) 0 := by
  obtain ⟨k, rfl⟩ : ∃ k, j = k + 1 := ⟨j - 1, by omega⟩
  rw [unbe_take (by simp; omega)]
  simp [List.getD_eq_getElem?_getD]
def cdOf : Option Nat → Int
  | none => 0
  | some c => 101 + (c : Int)
/-- the document's reader in block g: its bytes are lent. -/
structure RefR (w : World) (g : Nat) (bv : Value) (xs : List Int) (p : Nat) (bad : Option Nat) : Prop where
  hg : w.heap[g]? = some (.cells #[bv, .int .i64 (p : Int), .int .i64 (cdOf bad), .bool bad.isSome, .int .i64 (if bad.isSome then (p : Int) else 0)] 81 (0, 0))
  rdl : ∀ W : World, (∀ i, i < g → W.heap[i]? = w.heap[i]?) → Reads .u8 W bv xs
  le : p ≤ xs.length
section
variable {w w' : World} {g p : Nat} {bv : Value} {xs : List Int} {bad : Option Nat}
theorem RefR.rd (h : RefR w g bv xs p bad) : Reads .u8 w bv xs := h.rdl w fun _ _ => rfl
theorem RefR.lt (h : RefR w g bv xs p bad) : g < w.heap.size := (Array.getElem?_eq_some_iff.1 h.hg).1
theorem RefR.trdl (h : RefR w g bv xs p bad) (ht : Trd (· = g) w w') : ∀ W : World, (∀ i, i < g → W.heap[i]? = w'.heap[i]?) → Reads .u8 W bv xs :=
  fun W hW => h.rdl W fun i hi => (hW i hi).trans (ht.block i (Nat.lt_trans hi h.lt) (by omega))
theorem RefR.c0 (h : RefR w g bv xs p bad) : w.cell? ⟨g, 0, none⟩ = some bv := by rw [cell_of_row _ _ _ _ _ _ h.hg]; rfl
theorem RefR.c1 (h : RefR w g bv xs p bad) : w.cell? ⟨g, 1, none⟩ = some (.int .i64 (p : Int)) := by rw [cell_of_row _ _ _ _ _ _ h.hg]; rfl
theorem RefR.c2 (h : RefR w g bv xs p bad) : w.cell? ⟨g, 2, none⟩ = some (.int .i64 (cdOf bad)) := by rw [cell_of_row _ _ _ _ _ _ h.hg]; rfl
theorem RefR.c3 (h : RefR w g bv xs p bad) : w.cell? ⟨g, 3, none⟩ = some (.bool bad.isSome) := by rw [cell_of_row _ _ _ _ _ _ h.hg]; rfl
theorem RefR.c4 (h : RefR w g bv xs p bad) : w.cell? ⟨g, 4, none⟩ = some (.int .i64 (if bad.isSome then (p : Int) else 0)) := by rw [cell_of_row _ _ _ _ _ _ h.hg]; rfl
theorem RefR.fr (h : RefR w g bv xs p bad) (o : Nat) : w.frozen? ⟨g, o, none⟩ = false := by simp [World.frozen?, h.hg]
theorem RefR.below (h : RefR w g bv xs p bad) (hb : Below w.heap.size w w') : RefR w' g bv xs p bad :=
  ⟨by rw [hb.block g h.lt]; exact h.hg, fun W hW => h.rdl W fun i hi => (hW i hi).trans (hb.block i (Nat.lt_trans hi h.lt)), h.le⟩
end
theorem cdOf_zero (c : Nat) : (101 + (c : Int) == 0) = false := by rw [beq_eq_false_iff_ne]; omega
theorem refROk_any (w : World) (g : Nat) (bv : Value) (xs : List Int) (p : Nat) (bad : Option Nat) (h : RefR w g bv xs p bad) :
    Calls Tryz.prog 42 #[.pointer (some ⟨g, 0, none⟩)] w fun e w' => e = .returned (.bool bad.isNone) ∧ w = w' := by
  have c2 := h.c2
  cases bad with
  | none =>
    simp only [cdOf] at c2
    clear h
    go_enter Tryz.func42, Tryz.ntmps42
    go_wp2
    go_ret
    exact ⟨rfl, rfl⟩
  | some c =>
    simp only [cdOf] at c2
    have hz := cdOf_zero c
    clear h
    go_enter Tryz.func42, Tryz.ntmps42
    go_wp2
    go_ret
    exact ⟨rfl, rfl⟩
theorem refRLeft_any (w : World) (g : Nat) (bv : Value) (xs : List Int) (p : Nat) (bad : Option Nat) (h : RefR w g bv xs p bad) (hx : xs.length ≤ 1000000000) :
    Calls Tryz.prog 43 #[.pointer (some ⟨g, 0, none⟩)] w fun e w' => e = .returned (.int .i64 ((xs.length : Int) - (p : Int))) ∧ ∃ m, w' = w.drewN m := by
  have c0 := h.c0
  have c1 := h.c1
  have hp := h.le
  obtain ⟨a, c, rfl⟩ := reads_slice h.rd
  have hpI : (p : Int) ≤ 1000000000 := by omega
  have hxI : (xs.length : Int) ≤ 1000000000 := by omega
  clear h
  go_enter Tryz.func43, Tryz.ntmps43
  go_wp2_with fail
  go_quiet (fail)
  go_wp2
  go_ret
  exact ⟨rfl, _, rfl⟩
theorem RefR.fail {w : World} {g p : Nat} {bv : Value} {xs : List Int} (h : RefR w g bv xs p none) (c : Nat) :
    RefR ((((w.setCell ⟨g, 2, none⟩ (.int .i64 (101 + (c : Int)))).setCell ⟨g, 3, none⟩ (.bool true)).setCell ⟨g, 4, none⟩ (.int .i64 (p : Int))).setCell ⟨g, 1, none⟩ (.int .i64 (p : Int))) g bv xs p (some c) ∧
      Trd (· = g) w ((((w.setCell ⟨g, 2, none⟩ (.int .i64 (101 + (c : Int)))).setCell ⟨g, 3, none⟩ (.bool true)).setCell ⟨g, 4, none⟩ (.int .i64 (p : Int))).setCell ⟨g, 1, none⟩ (.int .i64 (p : Int))) := by
  have ht := (((Trd.setCell (S := (· = g)) w ⟨g, 2, none⟩ (.int .i64 (101 + (c : Int))) rfl).trans (Trd.setCell _ ⟨g, 3, none⟩ (.bool true) rfl)).trans (Trd.setCell _ ⟨g, 4, none⟩ (.int .i64 (p : Int)) rfl)).trans (Trd.setCell _ ⟨g, 1, none⟩ (.int .i64 (p : Int)) rfl)
  refine ⟨⟨?_, h.trdl ht, h.le⟩, ht⟩
  rw [heap_setCell_row (heap_setCell_row (heap_setCell_row (heap_setCell_row h.hg _) _) _) _]
  rfl
def RFailAt (g : Nat) (bv : Value) (xs : List Int) (p c : Nat) (w : World) (e : Ending) (w' : World) : Prop := e = .returned (.tuple #[]) ∧ RefR w' g bv xs p (some c) ∧ Trd (· = g) w w'
theorem refFail_any (w : World) (g : Nat) (bv : Value) (xs : List Int) (p c : Nat) (h : RefR w g bv xs p none) :
    Calls Tryz.prog 44 #[.pointer (some ⟨g, 0, none⟩), .int .i64 (101 + (c : Int)), .int .i64 (p : Int)] w (RFailAt g bv xs p c w) := by
  have h' := hidden h
  have hP := hidden (fault_placed (101 + (c : Int)) (p : Int) w (cdOf_zero c))
  clear h
  go_enter Tryz.func44, Tryz.ntmps44
  go_wp2_with fail
  refine hP.out.mono ?_
  rintro e w1 ⟨rfl, hb⟩
  have h1 := hidden (h'.out.below hb)
  have c1 := h1.out.c1
  have c2 := h1.out.c2
  have c3 := h1.out.c3
  have c4 := h1.out.c4
  have f1 := h1.out.fr 1
  have f2 := h1.out.fr 2
  have f3 := h1.out.fr 3
  have f4 := h1.out.fr 4
  replace hb := hidden hb
  have hend := hidden (h1.out.fail c)
  go_wp2
  go_end0
  exact ⟨rfl, hend.out.1, (Trd.of_below hb.out (Nat.le_refl _)).trans hend.out.2⟩

/-! Num -/
theorem RefR.move {w : World} {g p n : Nat} {bv : Value} {xs : List Int} (h : RefR w g bv xs p none) (hn : n ≤ xs.length) :
    RefR (w.setCell ⟨g, 1, none⟩ (.int .i64 (n : Int))) g bv xs n none ∧ Trd (· = g) w (w.setCell ⟨g, 1, none⟩ (.int .i64 (n : Int))) := by
  have ht := Trd.setCell (S := (· = g)) w ⟨g, 1, none⟩ (.int .i64 (n : Int)) rfl
  refine ⟨⟨?_, h.trdl ht, hn⟩, ht⟩
  rw [heap_setCell_row h.hg _]
  rfl
def RNumAt (g : Nat) (bv : Value) (xs : List Int) (p : Nat) (bad : Option Nat) (w : World) (e : Ending) (w' : World) : Prop :=
  e = .returned (.int .i64 (rdNext xs p bad).1) ∧ RefR w' g bv xs (rdNext xs p bad).2.1 (rdNext xs p bad).2.2 ∧ Trd (· = g) w w'
theorem refNum_stopped (w : World) (g : Nat) (bv : Value) (xs : List Int) (p c : Nat) (h : RefR w g bv xs p (some c)) :
    Calls Tryz.prog 41 #[.pointer (some ⟨g, 0, none⟩), .int .i64 (-9223372036854775808), .int .i64 9223372036854775807] w (RNumAt g bv xs p (some c) w) := by
  have hO := hidden (refROk_any w g bv xs p (some c) h)
  have h' := hidden h
  clear h
  go_enter Tryz.func41, Tryz.ntmps41
  go_wp2_with fail
  refine hO.out.mono ?_
  rintro e w1 ⟨rfl, rfl⟩
  go_wp2
  go_ret
  exact ⟨rfl, h'.out, Trd.refl _ _⟩
/-- Num's rounds. -/
def RNumRel (xs : List Int) (p : Nat) (w0 : World) (z i : Value) (w : World) : Prop :=
  ∃ (k a : Nat), i = .int .i64 ((p : Int) + (k : Int)) ∧ z = .int .u64 (a : Int) ∧ k ≤ 9 ∧ p + k ≤ xs.length ∧ a < 128 ^ k ∧ dec 0 0 (xs.drop p) = dec k a (xs.drop (p + k)) ∧ w0 = w
theorem rnum_step {xs : List Int} {p k b : Nat} {x : Int} (hk : k < 9) (hlt : p + k < xs.length) (hb : b < 128 ^ k) (h128 : 128 ≤ x) (hd : dec 0 0 (xs.drop p) = dec k b (xs.drop (p + k))) (hx : xs.drop (p + k) = x :: xs.drop (p + k + 1)) :
    bits .or .u64 (b : Int) (IntKind.u64.wrap (x % 128 * 2 ^ (7 * k))) = ((b + x.toNat % 128 * 128 ^ k : Nat) : Int) ∧ b + x.toNat % 128 * 128 ^ k < 128 ^ (k + 1) ∧ dec 0 0 (xs.drop p) = dec (k + 1) (b + x.toNat % 128 * 128 ^ k) (xs.drop (p + (k + 1))) := by
  refine ⟨(or_join b k x (by omega) hb (by omega) (by omega)).1, ?_, ?_⟩
  · rw [Nat.pow_succ]
    have : x.toNat % 128 * 128 ^ k ≤ 127 * 128 ^ k := Nat.mul_le_mul_right _ (by omega)
    omega
  · rw [hd, hx, dec_more k b x _ hk h128]
    rfl
theorem and_oneN (r : Nat) (h : r ≤ 18446744073709551615) : bits .and .u64 (r : Int) 1 = ((r % 2 : Nat) : Int) := by
  rw [u64_and _ _ (by omega) (by omega) (by omega) (by omega)]
  show ((r &&& 1 : Nat) : Int) = _
  rw [nat_mask1]
theorem ones_xor_i64 (x : Int) (h0 : -9223372036854775808 ≤ x) (h1 : x ≤ 9223372036854775807) : bits .xor .i64 (-1) x = -(x) - 1 := by
  rw [← xor_ones_i64 x h0 h1]
  show IntKind.i64.wrap ((BitVec.ofInt 64 (-1) ^^^ BitVec.ofInt 64 x).toNat : Int) = IntKind.i64.wrap ((BitVec.ofInt 64 x ^^^ BitVec.ofInt 64 (-1)).toNat : Int)
  rw [BitVec.xor_comm]
theorem mask127 (x : Int) (h0 : 0 ≤ x) (h1 : x ≤ 255) : bits .and .u8 x 127 = x % 128 := by
  rw [u8_and _ _ (by omega) (by omega) (by omega) (by omega)]
  show ((x.toNat &&& 127 : Nat) : Int) = _
  rw [nat_mask7]
  omega
theorem wrap_mod128 (x : Int) : IntKind.u64.wrap (x % 128) = x % 128 := by rw [IntKind.wrap_u64]; omega
set_option maxRecDepth 100000 in
set_option maxHeartbeats 6400000 in
theorem refNum_first (w : World) (g : Nat) (bv : Value) (xs : List Int) (p : Nat) (h : RefR w g bv xs p none) (hx : xs.length ≤ 1000000) (hbyte : ∀ x ∈ xs, 0 ≤ x ∧ x ≤ 255) :
    Calls Tryz.prog 41 #[.pointer (some ⟨g, 0, none⟩), .int .i64 (-9223372036854775808), .int .i64 9223372036854775807] w (RNumAt g bv xs p none w) := by
  have hO := hidden (refROk_any w g bv xs p none h)
  have c0 := h.c0
  have c1 := h.c1
  have f1 := h.fr 1
  have hp := h.le
  obtain ⟨ab, cbv, rfl⟩ := reads_slice h.rd
  have hF := hidden (fun c => refFail_any w g _ xs p c h)
  have h' := hidden h
  replace hbyte := hidden hbyte
  have hxI : (xs.length : Int) ≤ 1000000 := by omega
  clear h
  go_enter Tryz.func41, Tryz.ntmps41
  go_wp2_with fail
  refine hO.out.mono ?_
  rintro e w1 ⟨rfl, rfl⟩
  go_wp2_with fail
  go_loopw [7, 8] (fun z i wr => RNumRel xs p w z i wr) (fun _ i _ => xs.length - (RowKit.intOf i).toNat)
  case atStart => exact ⟨0, 0, rfl, rfl, by omega, by omega, by simp, by simp, rfl⟩
  case round =>
    obtain ⟨k, b, rfl, rfl, hk9, hk, hb, hd, rfl⟩ := hrel
    replace hd := hidden hd
    replace hb := hidden hb
    by_cases hlt : p + k < xs.length
    · obtain ⟨bl, ol, rfl, hc⟩ := h'.out.rd.cell (p + k) hlt
      have hby := hbyte.out (xs.getD (p + k) 0) (by rw [List.getD_eq_getElem?_getD, List.getElem?_eq_getElem hlt]; exact List.getElem_mem hlt)
      have hdrop := hidden (show xs.drop (p + k) = xs.getD (p + k) 0 :: xs.drop (p + k + 1) by rw [List.drop_eq_getElem_cons hlt, List.getD_eq_getElem?_getD, List.getElem?_eq_getElem hlt]; rfl)
      generalize xs.getD (p + k) 0 = x at hc hby hdrop
      have hne : ¬ (xs.length : Int) ≤ (p : Int) + (k : Int) := by omega
      have hsub : (p : Int) + (k : Int) - (p : Int) = (k : Int) := by omega
      have hpk : (p : Int) + (k : Int) ≤ 1000000 := by omega
      have hpk0 : (0 : Int) ≤ (p : Int) + (k : Int) := by omega
      have hpn : ((p : Int) + (k : Int)).toNat = p + k := by omega
      by_cases hbad : (k = 9 ∧ 1 < x) ∨ (0 < k ∧ x = 0)
      · have hfin := hidden (show rdNext xs p none = (0, p, some 1) by
          unfold rdNext numC
          rw [hd.out, hdrop.out, dec_shape _ _ _ _ hbad])
        have hF1 := hidden (hF.out 1)
        clear hF
        rcases Nat.lt_or_ge k 9 with h9 | h9
        · have h9' : ((k : Int) == 9) = false := by rw [beq_eq_false_iff_ne]; omega
          have hx0 : x = 0 := by omega
          have hk0 : (0 : Int) < (k : Int) := by omega
          subst hx0
          clear hbad
          go_wp2_with fail
          refine hF1.out.mono ?_
          rintro e w2 ⟨rfl, h2, ht⟩
          replace h2 := hidden h2
          replace ht := hidden ht
          go_wp2
          go_ret
          exact ⟨ret_int (by rw [hfin.out]), by rw [hfin.out]; exact h2.out, ht.out⟩
        · have hk9' : k = 9 := by omega
          have h9' : ((k : Int) == 9) = true := by rw [beq_iff_eq]; omega
          have hk0 : (0 : Int) < (k : Int) := by omega
          replace hk9' := hidden hk9'
          rcases Int.lt_or_le 1 x with hx1 | hx1
          · clear hbad h9
            go_wp2_with fail
            refine hF1.out.mono ?_
            rintro e w2 ⟨rfl, h2, ht⟩
            replace h2 := hidden h2
            replace ht := hidden ht
            go_wp2
            go_ret
            exact ⟨ret_int (by rw [hfin.out]), by rw [hfin.out]; exact h2.out, ht.out⟩
          · have hx0 : x = 0 := by have := hk9'.out; omega
            subst hx0
            clear hbad h9
            go_wp2_with fail
            refine hF1.out.mono ?_
            rintro e w2 ⟨rfl, h2, ht⟩
            replace h2 := hidden h2
            replace ht := hidden ht
            go_wp2
            go_ret
            exact ⟨ret_int (by rw [hfin.out]), by rw [hfin.out]; exact h2.out, ht.out⟩
      · by_cases h128 : x < 128
        · have hj := or_join b k x hk9 hb.out hby.1 (by omega)
          have hfin := hidden (show rdNext xs p none = (uz ((b + x.toNat % 128 * 128 ^ k : Nat) : Int), p + (k + 1), none) by
            unfold rdNext numC
            rw [hd.out, hdrop.out, dec_ok _ _ _ _ (by omega) (by omega) hby.1 h128]
            simp only
            have hr0 : (0 : Int) ≤ ((b + x.toNat % 128 * 128 ^ k : Nat) : Int) := by omega
            rw [if_pos ⟨uz_lo _ hr0 (by have := hj.2; omega), uz_hi _ hr0 (by have := hj.2; omega)⟩])
          have hj1 := hidden hj.1
          have hj2 := hj.2
          clear hj
          generalize b + x.toNat % 128 * 128 ^ k = r at hj1 hj2 hfin
          have hr0 : (0 : Int) ≤ (r : Int) := by omega
          have hr1 : (r : Int) ≤ 18446744073709551615 := by omega
          have hm1 := mask127 x hby.1 hby.2
          have hm2 := wrap_mod128 x
          have hj3 := hj1.out
          have han := and_oneN r hj2
          have hmv := hidden (h'.out.move (n := p + (k + 1)) (by omega))
          have hcast : ((p + (k + 1) : Nat) : Int) = (p : Int) + (k : Int) + 1 := by omega
          rw [hcast] at hmv
          rcases Nat.mod_two_eq_zero_or_one r with h2 | h2
          · rw [h2] at han
            have huz := hidden (show uz (r : Int) = (r : Int) / 2 by unfold uz; rw [if_pos (by omega)])
            clear hd hcast h2
            rcases Nat.lt_or_ge k 9 with h9 | h9
            · have h9' : ((k : Int) == 9) = false := by rw [beq_eq_false_iff_ne]; omega
              rcases Nat.eq_zero_or_pos k with hk0 | hk0
              · have hk0' : ¬ (0 : Int) < (k : Int) := by omega
                clear hk0 h9 hbad hb
                go_wp2
                go_ret
                exact ⟨ret_int (by rw [hfin.out]; exact huz.out.symm), by rw [hfin.out]; exact hmv.out.1, hmv.out.2⟩
              · have hk0' : (0 : Int) < (k : Int) := by omega
                have hx0 : (x == 0) = false := by rw [beq_eq_false_iff_ne]; omega
                clear hk0 h9 hbad hb
                go_wp2
                go_ret
                exact ⟨ret_int (by rw [hfin.out]; exact huz.out.symm), by rw [hfin.out]; exact hmv.out.1, hmv.out.2⟩
            · have h9' : ((k : Int) == 9) = true := by rw [beq_iff_eq]; omega
              have hx1 : ¬ 1 < x := by omega
              have hk0' : (0 : Int) < (k : Int) := by omega
              have hx0 : (x == 0) = false := by rw [beq_eq_false_iff_ne]; omega
              clear h9 hbad hb
              go_wp2
              go_ret
              exact ⟨ret_int (by rw [hfin.out]; exact huz.out.symm), by rw [hfin.out]; exact hmv.out.1, hmv.out.2⟩
          · rw [h2] at han
            have hxr : bits .xor .i64 (-1) ((r : Int) / 2) = uz (r : Int) := by
              rw [ones_xor_i64 _ (by omega) (by omega)]; unfold uz; rw [if_neg (by omega)]
            have hu1 := uz_lo (r : Int) hr0 hr1
            have hu2 := uz_hi (r : Int) hr0 hr1
            clear hd hcast h2
            rcases Nat.lt_or_ge k 9 with h9 | h9
            · have h9' : ((k : Int) == 9) = false := by rw [beq_eq_false_iff_ne]; omega
              rcases Nat.eq_zero_or_pos k with hk0 | hk0
              · have hk0' : ¬ (0 : Int) < (k : Int) := by omega
                clear hk0 h9 hbad hb
                go_wp2
                go_ret
                exact ⟨ret_int (by rw [hfin.out]), by rw [hfin.out]; exact hmv.out.1, hmv.out.2⟩
              · have hk0' : (0 : Int) < (k : Int) := by omega
                have hx0 : (x == 0) = false := by rw [beq_eq_false_iff_ne]; omega
                clear hk0 h9 hbad hb
                go_wp2
                go_ret
                exact ⟨ret_int (by rw [hfin.out]), by rw [hfin.out]; exact hmv.out.1, hmv.out.2⟩
            · have h9' : ((k : Int) == 9) = true := by rw [beq_iff_eq]; omega
              have hx1 : ¬ 1 < x := by omega
              have hk0' : (0 : Int) < (k : Int) := by omega
              have hx0 : (x == 0) = false := by rw [beq_eq_false_iff_ne]; omega
              clear h9 hbad hb
              go_wp2
              go_ret
              exact ⟨ret_int (by rw [hfin.out]), by rw [hfin.out]; exact hmv.out.1, hmv.out.2⟩
        · have h128' : 128 ≤ x := by omega
          have h9 : k < 9 := by
            rcases Nat.lt_or_ge k 9 with h | h
            · exact h
            · omega
          have h9' : ((k : Int) == 9) = false := by rw [beq_eq_false_iff_ne]; omega
          have hstep := hidden (rnum_step (xs := xs) h9 hlt hb.out h128' hd.out hdrop.out)
          have hx0 : (x == 0) = false := by rw [beq_eq_false_iff_ne]; omega
          have hm1 := mask127 x hby.1 hby.2
          have hm2 := wrap_mod128 x
          clear hbad
          rcases Nat.eq_zero_or_pos k with hk0 | hk0
          · have hk0' : ¬ (0 : Int) < (k : Int) := by omega
            clear hk0
            go_wp2
            go_roundw
            case rel => exact ⟨k + 1, _, by go_num, by rw [hstep.out.1], by omega, by omega, hstep.out.2.1, hstep.out.2.2, rfl⟩
            case measure => simp [RowKit.intOf]; omega
          · have hk0' : (0 : Int) < (k : Int) := by omega
            clear hk0
            go_wp2
            go_roundw
            case rel => exact ⟨k + 1, _, by go_num, by rw [hstep.out.1], by omega, by omega, hstep.out.2.1, hstep.out.2.2, rfl⟩
            case measure => simp [RowKit.intOf]; omega
    · have hne : (xs.length : Int) ≤ (p : Int) + (k : Int) := by omega
      have hfin := hidden (show rdNext xs p none = (0, p, some 0) by
        unfold rdNext numC
        rw [hd.out, List.drop_eq_nil_of_le (by omega)]; rfl)
      have hF1 := hidden (hF.out 0)
      clear hF hlt
      go_wp2_with fail
      refine hF1.out.mono ?_
      rintro e w2 ⟨rfl, h2, ht⟩
      replace h2 := hidden h2
      replace ht := hidden ht
      go_wp2
      go_ret
      exact ⟨ret_int (by rw [hfin.out]), by rw [hfin.out]; exact h2.out, ht.out⟩
theorem refNum_next (w : World) (g : Nat) (bv : Value) (xs : List Int) (p : Nat) (bad : Option Nat) (h : RefR w g bv xs p bad) (hx : xs.length ≤ 1000000) (hbyte : ∀ x ∈ xs, 0 ≤ x ∧ x ≤ 255) :
    Calls Tryz.prog 41 #[.pointer (some ⟨g, 0, none⟩), .int .i64 (-9223372036854775808), .int .i64 9223372036854775807] w (RNumAt g bv xs p bad w) := by
  cases bad with
  | none => exact refNum_first w g bv xs p h hx hbyte
  | some c => exact refNum_stopped w g bv xs p c h
end Go.Proofs.YtongpgnnhpbcpaaGreatDoor
