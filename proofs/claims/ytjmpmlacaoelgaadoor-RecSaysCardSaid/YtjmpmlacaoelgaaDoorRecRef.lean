/-
  The document's keys, and its reader of numbers.
-/
import Derived.Test.YtjmpmlacaoelgaaDoorRec3
import Derived.Test.YtjmpmlacaoelgaaDoorRec4
namespace Go.Proofs.YtjmpmlacaoelgaaDoor
open Go.RowKit
set_option linter.unusedVariables false

/-! pledgeref5.Key -/
theorem own_one (w : World) (u : Value) (e : TypeId) : (w.alloc (.cells #[u] e)).ownsRow w.heap.size e 1 (.slice (some ⟨w.heap.size, 0, none⟩) 1 1) 1 [u] :=
  ⟨by simp, .inr ⟨w.heap.size, 1, #[u], rfl, Nat.le_refl _, heap_alloc_new w _, Nat.le_refl _, by unfold maxLen; decide, by simp, by simp⟩⟩
def KeyRel (A : List Int) (x : Int) (B : Nat) (w0 : World) (v i : Value) (w : World) : Prop :=
  ∃ k : Nat, k ≤ 5 ∧ i = .int .i64 (4 - (k : Int)) ∧ w.ownsRow B 5 1 v (A.length + k) (cb (A ++ (beb 5 x).take k)) ∧ Below B w0 w
theorem key_byte {x : Int} {k : Nat} (hk : k < 5) : x / 2 ^ (8 * (4 - (k : Int))).toNat = x / 256 ^ (4 - k) := by
  rw [show (8 * (4 - (k : Int))).toNat = 8 * (4 - k) by omega, show (2 : Int) ^ (8 * (4 - k)) = 256 ^ (4 - k) by rw [Int.pow_mul]; rfl]
theorem key_step {A : List Int} {x : Int} {k : Nat} (hk : k < 5) : cb (A ++ (beb 5 x).take k) ++ [.int .u8 (x / 256 ^ (4 - k) % 256)] = cb (A ++ (beb 5 x).take (k + 1)) := by
  rw [beb_take 5 x k hk, ← List.append_assoc, cb_snoc]
def RKeyAt (p a b : Int) (w : World) (e : Ending) (w' : World) : Prop := ∃ v, e = .returned (.tuple #[v, .int .i64 0]) ∧ Reads .u8 w' v (keyB p a b) ∧ Below w.heap.size w w'
set_option maxHeartbeats 1600000 in
theorem refKey_yes (p a b : Int) (w : World) (h : keyOk p a b) : Calls Tryd.prog 9 #[.int .i64 p, .int .i64 a, .int .i64 b] w (RKeyAt p a b w) := by
  obtain ⟨p0, p1, a0, a1, b0, b1⟩ := h
  have l1 : decide (1099511627776 ≤ a) = false := decide_eq_false (by omega)
  have l2 : decide (1099511627776 ≤ b) = false := decide_eq_false (by omega)
  have hp : p % 256 = p := by omega
  have hst := hidden (own_one w (.int .u8 p) 5)
  have hp1 := hidden (show beb 1 p = [p] by simp [beb]; omega)
  go_enter Tryd.func9, Tryd.ntmps9
  go_wp2_with fail
  go_loopw [8, 9] (fun v i wr => KeyRel [p] a w.heap.size w v i wr) (fun _ i _ => (RowKit.intOf i + 1).toNat)
  case atStart => exact ⟨0, by decide, rfl, by simpa [cb] using hst.out, (Below.refl _ _).alloc (Nat.le_refl _) _⟩
  case round =>
    clear hst
    obtain ⟨k, hk, rfl, hown, hb⟩ := hrel
    have hbs := hb.size
    by_cases hlt : k < 5
    · have hk4 : (k : Int) ≤ 4 := by omega
      have hk0 : (0 : Int) ≤ 4 - (k : Int) := by omega
      have hsh := key_byte (x := a) hlt
      have hstep := hidden (key_step (A := [p]) (x := a) hlt)
      go_wp2_with (at_builtin; refine wpList_app1 rfl _ _ 24 rfl 5 Tryd.underlying24 infoB rfl (by decide) w.heap.size _ _ _ rfl hown _ rfl rfl ?_ hbs ?_)
      case _ => simp; omega
      intro v2 w2 hown2 hb2
      replace hown2 : w2.ownsRow w.heap.size 5 1 v2 (1 + (k + 1)) (cb ([p] ++ (beb 5 a).take (k + 1))) := by rw [← hstep.out]; exact hown2
      have hb3 := hb.trans hb2
      clear hb2 hb hown hstep
      go_wp2
      go_roundw
      case rel => exact ⟨k + 1, by omega, by go_num, hown2, hb3⟩
      case measure => simp [RowKit.intOf]; omega
    · have e9 : (4 - (k : Int)) = -1 := by omega
      rw [e9]
      clear e9
      obtain rfl : k = 5 := by omega
      have hfull := hidden (show w.heap.size ≤ wr.heap.size from hbs)
      have hA : [p] ++ (beb 5 a).take 5 = [p] ++ beb 5 a := by rw [List.take_of_length_le (by rw [beb_len]; decide)]
      rw [hA] at hown
      have hl6 : ([p] ++ beb 5 a).length = 6 := by simp [beb_len]
      have hst2 := hidden (show KeyRel ([p] ++ beb 5 a) b w.heap.size w u8 (.int .i64 4) wr from ⟨0, by decide, rfl, by rw [List.take_zero, List.append_nil, hl6]; exact hown, hb⟩)
      clear hown hb hbs hlt hA hk
      go_wp2_with fail
      go_loopw [8, 10] (fun v i wr => KeyRel ([p] ++ beb 5 a) b w.heap.size w v i wr) (fun _ i _ => (RowKit.intOf i + 1).toNat)
      case atStart => exact hst2.out
      case round =>
        clear hst2
        obtain ⟨k, hk, rfl, hown, hb⟩ := hrel
        rw [hl6] at hown
        have hbs := hb.size
        by_cases hlt : k < 5
        · have hk4 : (k : Int) ≤ 4 := by omega
          have hk0 : (0 : Int) ≤ 4 - (k : Int) := by omega
          have hsh := key_byte (x := b) hlt
          have hstep := hidden (key_step (A := [p] ++ beb 5 a) (x := b) hlt)
          go_wp2_with (at_builtin; refine wpList_app1 rfl _ _ 24 rfl 5 Tryd.underlying24 infoB rfl (by decide) w.heap.size _ _ _ rfl hown _ rfl rfl ?_ hbs ?_)
          case _ => omega
          intro v2 w2 hown2 hb2
          replace hown2 := hidden (show w2.ownsRow w.heap.size 5 1 v2 (([p] ++ beb 5 a).length + (k + 1)) (cb ([p] ++ beb 5 a ++ (beb 5 b).take (k + 1))) by rw [← hstep.out, hl6]; exact hown2)
          have hb3 := hb.trans hb2
          clear hb2 hb hown hstep
          go_wp2
          go_roundw
          case rel => exact ⟨k + 1, by omega, by go_num, hown2.out, hb3⟩
          case measure => simp [RowKit.intOf]; omega
        · obtain rfl : k = 5 := by omega
          have hend := hidden (show Reads .u8 wr u8 (keyB p a b) by
            have e : cb ([p] ++ beb 5 a ++ (beb 5 b).take 5) = (keyB p a b).map (Value.int .u8) := by rw [List.take_of_length_le (by rw [beb_len]; decide), keyB, hp1.out]; rfl
            rw [e] at hown
            exact reads_of_own (k := .u8) hown)
          have hb' := hidden hb
          clear hown hlt hk hb hbs
          go_wp2
          go_ret2
          exact ⟨_, rfl, hend.out, hb'.out⟩
theorem keyOk_not6r {p a b : Int} (h : ¬ keyOk p a b) : (decide (p < 0) = true) ∨ (decide (p < 0) = false ∧ decide (255 < p) = true) ∨ (decide (p < 0) = false ∧ decide (255 < p) = false ∧ decide (a < 0) = true) ∨ (decide (p < 0) = false ∧ decide (255 < p) = false ∧ decide (a < 0) = false ∧ decide (1099511627776 ≤ a) = true) ∨
    (decide (p < 0) = false ∧ decide (255 < p) = false ∧ decide (a < 0) = false ∧ decide (1099511627776 ≤ a) = false ∧ decide (b < 0) = true) ∨ (decide (p < 0) = false ∧ decide (255 < p) = false ∧ decide (a < 0) = false ∧ decide (1099511627776 ≤ a) = false ∧ decide (b < 0) = false ∧ decide (1099511627776 ≤ b) = true) := by
  unfold keyOk at h
  simp only [decide_eq_true_iff, decide_eq_false_iff_not]
  omega
theorem refKey_no (p a b : Int) (w : World) (h : ¬ keyOk p a b) : Calls Tryd.prog 9 #[.int .i64 p, .int .i64 a, .int .i64 b] w fun e w' => e = .returned (.tuple #[.slice none 0 0, .int .i64 103]) ∧ w = w' := by
  rcases keyOk_not6r h with t1 | ⟨t1, t2⟩ | ⟨t1, t2, t3⟩ | ⟨t1, t2, t3, t4⟩ | ⟨t1, t2, t3, t4, t5⟩ | ⟨t1, t2, t3, t4, t5, t6⟩
  all_goals
    clear h
    go_enter Tryd.func9, Tryd.ntmps9
    go_wp2
    go_ret2
    exact ⟨rfl, rfl⟩

/-! pledgeref5.Read -/
theorem refRead_end (v : Value) (xs : List Int) (w : World) (hr : Reads .u8 w v xs) (hl : xs.length < 11) : Calls Tryd.prog 13 #[v] w fun e w' => e = .returned (.tuple #[.int .i64 0, .int .i64 0, .int .i64 0, .int .i64 101]) ∧ w = w' := by
  obtain ⟨a, c, rfl⟩ := reads_slice hr
  have hlI : (xs.length : Int) < 11 := by omega
  clear hr hl
  go_enter Tryd.func13, Tryd.ntmps13
  go_wp2
  exact bodyPost_ret (v := .tuple #[.int .i64 0, .int .i64 0, .int .i64 0, .int .i64 101]) (by simp [results, Tryd.results13, go_sem]) rfl ⟨rfl, rfl⟩
theorem refRead_shape (v : Value) (xs : List Int) (w : World) (hr : Reads .u8 w v xs) (hl : 11 < xs.length) : Calls Tryd.prog 13 #[v] w fun e w' => e = .returned (.tuple #[.int .i64 0, .int .i64 0, .int .i64 0, .int .i64 102]) ∧ w = w' := by
  obtain ⟨a, c, rfl⟩ := reads_slice hr
  have hlI : (11 : Int) < (xs.length : Int) := by omega
  clear hr hl
  go_enter Tryd.func13, Tryd.ntmps13
  go_wp2
  exact bodyPost_ret (v := .tuple #[.int .i64 0, .int .i64 0, .int .i64 0, .int .i64 102]) (by simp [results, Tryd.results13, go_sem]) rfl ⟨rfl, rfl⟩
theorem results_tmp4 {fn : Func} {t u v x : Tmp} (h : fn.results = #[.tmp t, .tmp u, .tmp v, .tmp x]) (tmps : Array Value) (P : Program) (w : World) :
    (results fn tmps).run P w = .ok (.tuple #[tmps.getD t undef, tmps.getD u undef, tmps.getD v undef, tmps.getD x undef]) w := by
  simp [results, h]
def RReadAt (xs : List Int) (w0 : World) (a b i : Value) (w : World) : Prop :=
  ∃ j : Nat, 1 ≤ j ∧ j ≤ 6 ∧ i = .int .i64 (j : Int) ∧ a = .int .i64 (unbe ((xs.drop 1).take (j - 1))) ∧ b = .int .i64 (unbe ((xs.drop 6).take (j - 1))) ∧ w0 = w
theorem drop_take_next {xs : List Int} {o j : Nat} (h : 1 ≤ j) (hl : o + j ≤ xs.length) : unbe ((xs.drop o).take j) = unbe ((xs.drop o).take (j - 1)) * 256 + xs.getD (o + (j - 1)) 0 := by
  obtain ⟨k, rfl⟩ : ∃ k, j = k + 1 := ⟨j - 1, by omega⟩
  rw [unbe_take (by simp; omega)]
  simp [List.getD_eq_getElem?_getD]
set_option maxHeartbeats 1600000 in
theorem refRead_ok (v : Value) (xs : List Int) (w : World) (hr : Reads .u8 w v xs) (hb : ∀ x ∈ xs, 0 ≤ x ∧ x ≤ 255) (hl : xs.length = 11) :
    Calls Tryd.prog 13 #[v] w fun e w' => e = .returned (.tuple #[.int .i64 (unbe (xs.take 1)), .int .i64 (unbe (xs.tail.take 5)), .int .i64 (unbe (xs.drop 6)), .int .i64 0]) ∧ w = w' := by
  obtain ⟨a, c, rfl⟩ := reads_slice hr
  rw [hl] at hr ⊢
  obtain ⟨bl, o, rfl, c0⟩ := hr.cell 0 (by omega)
  rw [Nat.add_zero] at c0
  have hg : ∀ i, i < 11 → 0 ≤ xs.getD i 0 ∧ xs.getD i 0 ≤ 255 := fun i hi => hb _ (by rw [List.getD_eq_getElem?_getD, List.getElem?_eq_getElem (by omega)]; exact List.getElem_mem (by omega))
  have hx0 := hg 0 (by decide)
  have e0 := hidden (show unbe (xs.take 1) = xs.getD 0 0 by rw [unbe_take (k := 0) (by omega)]; simp [unbe])
  have e1 := hidden (show (xs.drop 1).take (6 - 1) = xs.tail.take 5 by rw [List.drop_one])
  have e2 := hidden (show (xs.drop 6).take (6 - 1) = xs.drop 6 from List.take_of_length_le (by simp; omega))
  have hfin := hidden (show Ending.returned (.tuple #[.int .i64 (xs.getD 0 0), .int .i64 (unbe ((xs.drop 1).take (6 - 1))), .int .i64 (unbe ((xs.drop 6).take (6 - 1))), .int .i64 0]) = Ending.returned (.tuple #[.int .i64 (unbe (xs.take 1)), .int .i64 (unbe (xs.tail.take 5)), .int .i64 (unbe (xs.drop 6)), .int .i64 0]) by rw [e0.out, e1.out, e2.out])
  have hnx := hidden (fun o j h1 h2 => @drop_take_next xs o j h1 h2)
  replace hl := hidden hl
  replace hr := hidden hr
  replace hb := hidden hb
  replace hg := hidden hg
  generalize xs.getD 0 0 = y0 at *
  go_enter Tryd.func13, Tryd.ntmps13
  go_wp2_with fail
  go_loopw [6, 7, 8] (fun a b i wr => RReadAt xs w a b i wr) (fun _ _ i _ => 6 - (RowKit.intOf i).toNat)
  case atStart => exact ⟨1, by decide, by decide, rfl, rfl, rfl, rfl⟩
  case round =>
    obtain ⟨j, hj1, hj6, rfl, rfl, rfl, rfl⟩ := hrel
    have hs1 := unbe_small (m := 4) (l := (xs.drop 1).take (j - 1))
    by_cases hlt : j < 6
    · have hjI : (j : Int) ≤ 5 := by omega
      have hj0 : (1 : Int) ≤ (j : Int) := by omega
      have n1 := unbe_small (m := 4) (fun x hx => hb.out x (List.mem_of_mem_drop (List.mem_of_mem_take hx))) (show ((xs.drop 1).take (j - 1)).length ≤ 4 by rw [List.length_take]; omega)
      have n2 := unbe_small (m := 4) (fun x hx => hb.out x (List.mem_of_mem_drop (List.mem_of_mem_take hx))) (show ((xs.drop 6).take (j - 1)).length ≤ 4 by rw [List.length_take]; omega)
      rw [show (256 : Int) ^ 4 = 4294967296 by decide] at n1 n2
      have q1 := hidden (hnx.out 1 j (by omega) (by have := hl.out; omega))
      have q2 := hidden (hnx.out 6 j (by omega) (by have := hl.out; omega))
      rw [show 1 + (j - 1) = j by omega] at q1
      rw [show 6 + (j - 1) = j + 5 by omega] at q2
      obtain ⟨b1, o1, ea, ca⟩ := hr.out.cell j (by omega)
      obtain ⟨b2, o2, eb, cb⟩ := hr.out.cell (j + 5) (by omega)
      simp only [Option.some.injEq, Addr.mk.injEq, and_true] at ea eb
      obtain ⟨rfl, rfl⟩ := ea
      obtain ⟨rfl, rfl⟩ := eb
      have g1 := hg.out j (by omega)
      have g2 := hg.out (j + 5) (by omega)
      generalize xs.getD j 0 = x1 at *
      generalize xs.getD (j + 5) 0 = x2 at *
      generalize unbe ((xs.drop 1).take (j - 1)) = m1 at *
      generalize unbe ((xs.drop 6).take (j - 1)) = m2 at *
      have r1 := hidden (or_low8 m1 x1 n1.1 (by omega) g1.1 g1.2)
      have r2 := hidden (or_low8 m2 x2 n2.1 (by omega) g2.1 g2.2)
      clear hs1
      go_wp2
      go_roundw
      case rel => exact ⟨j + 1, by omega, by omega, by go_num, by rw [Nat.add_sub_cancel, q1.out, ← r1.out], by rw [Nat.add_sub_cancel, q2.out, ← r2.out], rfl⟩
      case measure => simp [RowKit.intOf]; omega
    · obtain rfl : j = 6 := by omega
      clear hs1
      go_wp2
      refine bodyPost_ret (results_tmp4 rfl _ _ _) rfl ?_
      exact ⟨hfin.out, rfl⟩

/-! pledgeref1.Reader -/
def cdOf : Option Nat → Int
  | none => 0
  | some c => 101 + (c : Int)
/-- the document's reader in block g: its bytes are lent. -/
structure RefR (w : World) (g : Nat) (bv : Value) (xs : List Int) (p : Nat) (bad : Option Nat) : Prop where
  hg : w.heap[g]? = some (.cells #[bv, .int .i64 (p : Int), .int .i64 (cdOf bad), .bool bad.isSome, .int .i64 (if bad.isSome then (p : Int) else 0)] 47 (0, 0))
  rdl : ∀ W : World, (∀ i, i < g → W.heap[i]? = w.heap[i]?) → Reads .u8 W bv xs
  le : p ≤ xs.length
section
variable {w w' : World} {g p : Nat} {bv : Value} {xs : List Int} {bad : Option Nat}
theorem RefR.rd (h : RefR w g bv xs p bad) : Reads .u8 w bv xs := h.rdl w fun _ _ => rfl
theorem RefR.lt (h : RefR w g bv xs p bad) : g < w.heap.size := (Array.getElem?_eq_some_iff.1 h.hg).1
theorem RefR.trdl (h : RefR w g bv xs p bad) (ht : Trd (· = g) w w') : ∀ W : World, (∀ i, i < g → W.heap[i]? = w'.heap[i]?) → Reads .u8 W bv xs :=
  fun W hW => h.rdl W fun i hi => (hW i hi).trans (ht.block i (Nat.lt_trans hi h.lt) (by omega))
theorem RefR.c0 (h : RefR w g bv xs p bad) : w.cell? ⟨g, 0, none⟩ = some bv := by rw [cell_of_row _ _ _ _ _ _ h.hg]; rfl
theorem RefR.c1 (h : RefR w g bv xs p bad) : w.cell? ⟨g, 1, none⟩ = some (.int .i64 (p : Int)) := by rw [cell_of_row _ _ _ _ _ _ h.hg]; rfl
theorem RefR.c2 (h : RefR w g bv xs p bad) : w.cell? ⟨g, 2, none⟩ = some (.int .i64 (cdOf bad)) := by rw [cell_of_row _ _ _ _ _ _ h.hg]; rfl
theorem RefR.c3 (h : RefR w g bv xs p bad) : w.cell? ⟨g, 3, none⟩ = some (.bool bad.isSome) := by rw [cell_of_row _ _ _ _ _ _ h.hg]; rfl
theorem RefR.c4 (h : RefR w g bv xs p bad) : w.cell? ⟨g, 4, none⟩ = some (.int .i64 (if bad.isSome then (p : Int) else 0)) := by rw [cell_of_row _ _ _ _ _ _ h.hg]; rfl
theorem RefR.fr (h : RefR w g bv xs p bad) (o : Nat) : w.frozen? ⟨g, o, none⟩ = false := by simp [World.frozen?, h.hg]
theorem RefR.below (h : RefR w g bv xs p bad) (hb : Below w.heap.size w w') : RefR w' g bv xs p bad :=
  ⟨by rw [hb.block g h.lt]; exact h.hg, fun W hW => h.rdl W fun i hi => (hW i hi).trans (hb.block i (Nat.lt_trans hi h.lt)), h.le⟩
end
theorem cdOf_zero (c : Nat) : (101 + (c : Int) == 0) = false := by rw [beq_eq_false_iff_ne]; omega
theorem refROk_any (w : World) (g : Nat) (bv : Value) (xs : List Int) (p : Nat) (bad : Option Nat) (h : RefR w g bv xs p bad) :
    Calls Tryd.prog 18 #[.pointer (some ⟨g, 0, none⟩)] w fun e w' => e = .returned (.bool bad.isNone) ∧ w = w' := by
  have c2 := h.c2
  cases bad with
  | none =>
    simp only [cdOf] at c2
    clear h
    go_enter Tryd.func18, Tryd.ntmps18
    go_wp2
    go_ret
    exact ⟨rfl, rfl⟩
  | some c =>
    simp only [cdOf] at c2
    have hz := cdOf_zero c
    clear h
    go_enter Tryd.func18, Tryd.ntmps18
    go_wp2
    go_ret
    exact ⟨rfl, rfl⟩
theorem refRLeft_any (w : World) (g : Nat) (bv : Value) (xs : List Int) (p : Nat) (bad : Option Nat) (h : RefR w g bv xs p bad) (hx : xs.length ≤ 1000000000) :
    Calls Tryd.prog 19 #[.pointer (some ⟨g, 0, none⟩)] w fun e w' => e = .returned (.int .i64 ((xs.length : Int) - (p : Int))) ∧ ∃ m, w' = w.drewN m := by
  have c0 := h.c0
  have c1 := h.c1
  have hp := h.le
  obtain ⟨a, c, rfl⟩ := reads_slice h.rd
  have hpI : (p : Int) ≤ 1000000000 := by omega
  have hxI : (xs.length : Int) ≤ 1000000000 := by omega
  clear h
  go_enter Tryd.func19, Tryd.ntmps19
  go_wp2_with fail
  go_quiet (fail)
  go_wp2
  go_ret
  exact ⟨rfl, _, rfl⟩
theorem RefR.fail {w : World} {g p : Nat} {bv : Value} {xs : List Int} (h : RefR w g bv xs p none) (c : Nat) :
    RefR ((((w.setCell ⟨g, 2, none⟩ (.int .i64 (101 + (c : Int)))).setCell ⟨g, 3, none⟩ (.bool true)).setCell ⟨g, 4, none⟩ (.int .i64 (p : Int))).setCell ⟨g, 1, none⟩ (.int .i64 (p : Int))) g bv xs p (some c) ∧
      Trd (· = g) w ((((w.setCell ⟨g, 2, none⟩ (.int .i64 (101 + (c : Int)))).setCell ⟨g, 3, none⟩ (.bool true)).setCell ⟨g, 4, none⟩ (.int .i64 (p : Int))).setCell ⟨g, 1, none⟩ (.int .i64 (p : Int))) := by
  have ht := (((Trd.setCell (S := (· = g)) w ⟨g, 2, none⟩ (.int .i64 (101 + (c : Int))) rfl).trans (Trd.setCell _ ⟨g, 3, none⟩ (.bool true) rfl)).trans (Trd.setCell _ ⟨g, 4, none⟩ (.int .i64 (p : Int)) rfl)).trans (Trd.setCell _ ⟨g, 1, none⟩ (.int .i64 (p : Int)) rfl)
  refine ⟨⟨?_, h.trdl ht, h.le⟩, ht⟩
  rw [heap_setCell_row (heap_setCell_row (heap_setCell_row (heap_setCell_row h.hg _) _) _) _]
  rfl
def RFailAt (g : Nat) (bv : Value) (xs : List Int) (p c : Nat) (w : World) (e : Ending) (w' : World) : Prop := e = .returned (.tuple #[]) ∧ RefR w' g bv xs p (some c) ∧ Trd (· = g) w w'
theorem refFail_any (w : World) (g : Nat) (bv : Value) (xs : List Int) (p c : Nat) (h : RefR w g bv xs p none) :
    Calls Tryd.prog 20 #[.pointer (some ⟨g, 0, none⟩), .int .i64 (101 + (c : Int)), .int .i64 (p : Int)] w (RFailAt g bv xs p c w) := by
  have h' := hidden h
  have hP := hidden (fault_placed (101 + (c : Int)) (p : Int) w (cdOf_zero c))
  clear h
  go_enter Tryd.func20, Tryd.ntmps20
  go_wp2_with fail
  refine hP.out.mono ?_
  rintro e w1 ⟨rfl, hb⟩
  have h1 := hidden (h'.out.below hb)
  have c1 := h1.out.c1
  have c2 := h1.out.c2
  have c3 := h1.out.c3
  have c4 := h1.out.c4
  have f1 := h1.out.fr 1
  have f2 := h1.out.fr 2
  have f3 := h1.out.fr 3
  have f4 := h1.out.fr 4
  replace hb := hidden hb
  have hend := hidden (h1.out.fail c)
  go_wp2
  go_end0
  exact ⟨rfl, hend.out.1, (Trd.of_below hb.out (Nat.le_refl _)).trans hend.out.2⟩

/-! Num -/
theorem RefR.move {w : World} {g p n : Nat} {bv : Value} {xs : List Int} (h : RefR w g bv xs p none) (hn : n ≤ xs.length) :
    RefR (w.setCell ⟨g, 1, none⟩ (.int .i64 (n : Int))) g bv xs n none ∧ Trd (· = g) w (w.setCell ⟨g, 1, none⟩ (.int .i64 (n : Int))) := by
  have ht := Trd.setCell (S := (· = g)) w ⟨g, 1, none⟩ (.int .i64 (n : Int)) rfl
  refine ⟨⟨?_, h.trdl ht, hn⟩, ht⟩
  rw [heap_setCell_row h.hg _]
  rfl
def RNumAt (g : Nat) (bv : Value) (xs : List Int) (p : Nat) (bad : Option Nat) (w : World) (e : Ending) (w' : World) : Prop :=
  e = .returned (.int .i64 (rdNext xs p bad).1) ∧ RefR w' g bv xs (rdNext xs p bad).2.1 (rdNext xs p bad).2.2 ∧ Trd (· = g) w w'
theorem refNum_stopped (w : World) (g : Nat) (bv : Value) (xs : List Int) (p c : Nat) (h : RefR w g bv xs p (some c)) :
    Calls Tryd.prog 17 #[.pointer (some ⟨g, 0, none⟩), .int .i64 (-9223372036854775808), .int .i64 9223372036854775807] w (RNumAt g bv xs p (some c) w) := by
  have hO := hidden (refROk_any w g bv xs p (some c) h)
  have h' := hidden h
  clear h
  go_enter Tryd.func17, Tryd.ntmps17
  go_wp2_with fail
  refine hO.out.mono ?_
  rintro e w1 ⟨rfl, rfl⟩
  go_wp2
  go_ret
  exact ⟨rfl, h'.out, Trd.refl _ _⟩
/-- Num's rounds. -/
def RNumRel (xs : List Int) (p : Nat) (w0 : World) (z i : Value) (w : World) : Prop :=
  ∃ (k a : Nat), i = .int .i64 ((p : Int) + (k : Int)) ∧ z = .int .u64 (a : Int) ∧ k ≤ 9 ∧ p + k ≤ xs.length ∧ a < 128 ^ k ∧ dec 0 0 (xs.drop p) = dec k a (xs.drop (p + k)) ∧ w0 = w
theorem rnum_step {xs : List Int} {p k b : Nat} {x : Int} (hk : k < 9) (hlt : p + k < xs.length) (hb : b < 128 ^ k) (h128 : 128 ≤ x) (hd : dec 0 0 (xs.drop p) = dec k b (xs.drop (p + k))) (hx : xs.drop (p + k) = x :: xs.drop (p + k + 1)) :
    bits .or .u64 (b : Int) (IntKind.u64.wrap (x % 128 * 2 ^ (7 * k))) = ((b + x.toNat % 128 * 128 ^ k : Nat) : Int) ∧ b + x.toNat % 128 * 128 ^ k < 128 ^ (k + 1) ∧ dec 0 0 (xs.drop p) = dec (k + 1) (b + x.toNat % 128 * 128 ^ k) (xs.drop (p + (k + 1))) := by
  refine ⟨(or_join b k x (by omega) hb (by omega) (by omega)).1, ?_, ?_⟩
  · rw [Nat.pow_succ]
    have : x.toNat % 128 * 128 ^ k ≤ 127 * 128 ^ k := Nat.mul_le_mul_right _ (by omega)
    omega
  · rw [hd, hx, dec_more k b x _ hk h128]
    rfl
theorem and_oneN (r : Nat) (h : r ≤ 18446744073709551615) : bits .and .u64 (r : Int) 1 = ((r % 2 : Nat) : Int) := by
  rw [u64_and _ _ (by omega) (by omega) (by omega) (by omega)]
  show ((r &&& 1 : Nat) : Int) = _
  rw [nat_mask1]
theorem ones_xor_i64 (x : Int) (h0 : -9223372036854775808 ≤ x) (h1 : x ≤ 9223372036854775807) : bits .xor .i64 (-1) x = -(x) - 1 := by
  rw [← xor_ones_i64 x h0 h1]
  show IntKind.i64.wrap ((BitVec.ofInt 64 (-1) ^^^ BitVec.ofInt 64 x).toNat : Int) = IntKind.i64.wrap ((BitVec.ofInt 64 x ^^^ BitVec.ofInt 64 (-1)).toNat : Int)
  rw [BitVec.xor_comm]
theorem mask127 (x : Int) (h0 : 0 ≤ x) (h1 : x ≤ 255) : bits .and .u8 x 127 = x % 128 := by
  rw [u8_and _ _ (by omega) (by omega) (by omega) (by omega)]
  show ((x.toNat &&& 127 : Nat) : Int) = _
  rw [nat_mask7]
  omega
theorem wrap_mod128 (x : Int) : IntKind.u64.wrap (x % 128) = x % 128 := by rw [IntKind.wrap_u64]; omega
set_option maxRecDepth 100000 in
set_option maxHeartbeats 6400000 in
theorem refNum_first (w : World) (g : Nat) (bv : Value) (xs : List Int) (p : Nat) (h : RefR w g bv xs p none) (hx : xs.length ≤ 1000000) (hbyte : ∀ x ∈ xs, 0 ≤ x ∧ x ≤ 255) :
    Calls Tryd.prog 17 #[.pointer (some ⟨g, 0, none⟩), .int .i64 (-9223372036854775808), .int .i64 9223372036854775807] w (RNumAt g bv xs p none w) := by
  have hO := hidden (refROk_any w g bv xs p none h)
  have c0 := h.c0
  have c1 := h.c1
  have f1 := h.fr 1
  have hp := h.le
  obtain ⟨ab, cbv, rfl⟩ := reads_slice h.rd
  have hF := hidden (fun c => refFail_any w g _ xs p c h)
  have h' := hidden h
  replace hbyte := hidden hbyte
  have hxI : (xs.length : Int) ≤ 1000000 := by omega
  clear h
  go_enter Tryd.func17, Tryd.ntmps17
  go_wp2_with fail
  refine hO.out.mono ?_
  rintro e w1 ⟨rfl, rfl⟩
  go_wp2_with fail
  go_loopw [7, 8] (fun z i wr => RNumRel xs p w z i wr) (fun _ i _ => xs.length - (RowKit.intOf i).toNat)
  case atStart => exact ⟨0, 0, rfl, rfl, by omega, by omega, by simp, by simp, rfl⟩
  case round =>
    obtain ⟨k, b, rfl, rfl, hk9, hk, hb, hd, rfl⟩ := hrel
    replace hd := hidden hd
    replace hb := hidden hb
    by_cases hlt : p + k < xs.length
    · obtain ⟨bl, ol, rfl, hc⟩ := h'.out.rd.cell (p + k) hlt
      have hby := hbyte.out (xs.getD (p + k) 0) (by rw [List.getD_eq_getElem?_getD, List.getElem?_eq_getElem hlt]; exact List.getElem_mem hlt)
      have hdrop := hidden (show xs.drop (p + k) = xs.getD (p + k) 0 :: xs.drop (p + k + 1) by rw [List.drop_eq_getElem_cons hlt, List.getD_eq_getElem?_getD, List.getElem?_eq_getElem hlt]; rfl)
      generalize xs.getD (p + k) 0 = x at hc hby hdrop
      have hne : ¬ (xs.length : Int) ≤ (p : Int) + (k : Int) := by omega
      have hsub : (p : Int) + (k : Int) - (p : Int) = (k : Int) := by omega
      have hpk : (p : Int) + (k : Int) ≤ 1000000 := by omega
      have hpk0 : (0 : Int) ≤ (p : Int) + (k : Int) := by omega
      have hpn : ((p : Int) + (k : Int)).toNat = p + k := by omega
      by_cases hbad : (k = 9 ∧ 1 < x) ∨ (0 < k ∧ x = 0)
      · have hfin := hidden (show rdNext xs p none = (0, p, some 1) by
          unfold rdNext numC
          rw [hd.out, hdrop.out, dec_shape _ _ _ _ hbad])
        have hF1 := hidden (hF.out 1)
        clear hF
        rcases Nat.lt_or_ge k 9 with h9 | h9
        · have h9' : ((k : Int) == 9) = false := by rw [beq_eq_false_iff_ne]; omega
          have hx0 : x = 0 := by omega
          have hk0 : (0 : Int) < (k : Int) := by omega
          subst hx0
          clear hbad
          go_wp2_with fail
          refine hF1.out.mono ?_
          rintro e w2 ⟨rfl, h2, ht⟩
          replace h2 := hidden h2
          replace ht := hidden ht
          go_wp2
          go_ret
          exact ⟨ret_int (by rw [hfin.out]), by rw [hfin.out]; exact h2.out, ht.out⟩
        · have hk9' : k = 9 := by omega
          have h9' : ((k : Int) == 9) = true := by rw [beq_iff_eq]; omega
          have hk0 : (0 : Int) < (k : Int) := by omega
          replace hk9' := hidden hk9'
          rcases Int.lt_or_le 1 x with hx1 | hx1
          · clear hbad h9
            go_wp2_with fail
            refine hF1.out.mono ?_
            rintro e w2 ⟨rfl, h2, ht⟩
            replace h2 := hidden h2
            replace ht := hidden ht
            go_wp2
            go_ret
            exact ⟨ret_int (by rw [hfin.out]), by rw [hfin.out]; exact h2.out, ht.out⟩
          · have hx0 : x = 0 := by have := hk9'.out; omega
            subst hx0
            clear hbad h9
            go_wp2_with fail
            refine hF1.out.mono ?_
            rintro e w2 ⟨rfl, h2, ht⟩
            replace h2 := hidden h2
            replace ht := hidden ht
            go_wp2
            go_ret
            exact ⟨ret_int (by rw [hfin.out]), by rw [hfin.out]; exact h2.out, ht.out⟩
      · by_cases h128 : x < 128
        · have hj := or_join b k x hk9 hb.out hby.1 (by omega)
          have hfin := hidden (show rdNext xs p none = (uz ((b + x.toNat % 128 * 128 ^ k : Nat) : Int), p + (k + 1), none) by
            unfold rdNext numC
            rw [hd.out, hdrop.out, dec_ok _ _ _ _ (by omega) (by omega) hby.1 h128]
            simp only
            have hr0 : (0 : Int) ≤ ((b + x.toNat % 128 * 128 ^ k : Nat) : Int) := by omega
            rw [if_pos ⟨uz_lo _ hr0 (by have := hj.2; omega), uz_hi _ hr0 (by have := hj.2; omega)⟩])
          have hj1 := hidden hj.1
          have hj2 := hj.2
          clear hj
          generalize b + x.toNat % 128 * 128 ^ k = r at hj1 hj2 hfin
          have hr0 : (0 : Int) ≤ (r : Int) := by omega
          have hr1 : (r : Int) ≤ 18446744073709551615 := by omega
          have hm1 := mask127 x hby.1 hby.2
          have hm2 := wrap_mod128 x
          have hj3 := hj1.out
          have han := and_oneN r hj2
          have hmv := hidden (h'.out.move (n := p + (k + 1)) (by omega))
          have hcast : ((p + (k + 1) : Nat) : Int) = (p : Int) + (k : Int) + 1 := by omega
          rw [hcast] at hmv
          rcases Nat.mod_two_eq_zero_or_one r with h2 | h2
          · rw [h2] at han
            have huz := hidden (show uz (r : Int) = (r : Int) / 2 by unfold uz; rw [if_pos (by omega)])
            clear hd hcast h2
            rcases Nat.lt_or_ge k 9 with h9 | h9
            · have h9' : ((k : Int) == 9) = false := by rw [beq_eq_false_iff_ne]; omega
              rcases Nat.eq_zero_or_pos k with hk0 | hk0
              · have hk0' : ¬ (0 : Int) < (k : Int) := by omega
                clear hk0 h9 hbad hb
                go_wp2
                go_ret
                exact ⟨ret_int (by rw [hfin.out]; exact huz.out.symm), by rw [hfin.out]; exact hmv.out.1, hmv.out.2⟩
              · have hk0' : (0 : Int) < (k : Int) := by omega
                have hx0 : (x == 0) = false := by rw [beq_eq_false_iff_ne]; omega
                clear hk0 h9 hbad hb
                go_wp2
                go_ret
                exact ⟨ret_int (by rw [hfin.out]; exact huz.out.symm), by rw [hfin.out]; exact hmv.out.1, hmv.out.2⟩
            · have h9' : ((k : Int) == 9) = true := by rw [beq_iff_eq]; omega
              have hx1 : ¬ 1 < x := by omega
              have hk0' : (0 : Int) < (k : Int) := by omega
              have hx0 : (x == 0) = false := by rw [beq_eq_false_iff_ne]; omega
              clear h9 hbad hb
              go_wp2
              go_ret
              exact ⟨ret_int (by rw [hfin.out]; exact huz.out.symm), by rw [hfin.out]; exact hmv.out.1, hmv.out.2⟩
          · rw [h2] at han
            have hxr : bits .xor .i64 (-1) ((r : Int) / 2) = uz (r : Int) := by
              rw [ones_xor_i64 _ (by omega) (by omega)]; unfold uz; rw [if_neg (by omega)]
            have hu1 := uz_lo (r : Int) hr0 hr1
            have hu2 := uz_hi (r : Int) hr0 hr1
            clear hd hcast h2
            rcases Nat.lt_or_ge k 9 with h9 | h9
            · have h9' : ((k : Int) == 9) = false := by rw [beq_eq_false_iff_ne]; omega
              rcases Nat.eq_zero_or_pos k with hk0 | hk0
              · have hk0' : ¬ (0 : Int) < (k : Int) := by omega
                clear hk0 h9 hbad hb
                go_wp2
                go_ret
                exact ⟨ret_int (by rw [hfin.out]), by rw [hfin.out]; exact hmv.out.1, hmv.out.2⟩
              · have hk0' : (0 : Int) < (k : Int) := by omega
                have hx0 : (x == 0) = false := by rw [beq_eq_false_iff_ne]; omega
                clear hk0 h9 hbad hb
                go_wp2
                go_ret
                exact ⟨ret_int (by rw [hfin.out]), by rw [hfin.out]; exact hmv.out.1, hmv.out.2⟩
            · have h9' : ((k : Int) == 9) = true := by rw [beq_iff_eq]; omega
              have hx1 : ¬ 1 < x := by omega
              have hk0' : (0 : Int) < (k : Int) := by omega
              have hx0 : (x == 0) = false := by rw [beq_eq_false_iff_ne]; omega
              clear h9 hbad hb
              go_wp2
              go_ret
              exact ⟨ret_int (by rw [hfin.out]), by rw [hfin.out]; exact hmv.out.1, hmv.out.2⟩
        · have h128' : 128 ≤ x := by omega
          have h9 : k < 9 := by
            rcases Nat.lt_or_ge k 9 with h | h
            · exact h
            · omega
          have h9' : ((k : Int) == 9) = false := by rw [beq_eq_false_iff_ne]; omega
          have hstep := hidden (rnum_step (xs := xs) h9 hlt hb.out h128' hd.out hdrop.out)
          have hx0 : (x == 0) = false := by rw [beq_eq_false_iff_ne]; omega
          have hm1 := mask127 x hby.1 hby.2
          have hm2 := wrap_mod128 x
          clear hbad
          rcases Nat.eq_zero_or_pos k with hk0 | hk0
          · have hk0' : ¬ (0 : Int) < (k : Int) := by omega
            clear hk0
            go_wp2
            go_roundw
            case rel => exact ⟨k + 1, _, by go_num, by rw [hstep.out.1], by omega, by omega, hstep.out.2.1, hstep.out.2.2, rfl⟩
            case measure => simp [RowKit.intOf]; omega
          · have hk0' : (0 : Int) < (k : Int) := by omega
            clear hk0
            go_wp2
            go_roundw
            case rel => exact ⟨k + 1, _, by go_num, by rw [hstep.out.1], by omega, by omega, hstep.out.2.1, hstep.out.2.2, rfl⟩
            case measure => simp [RowKit.intOf]; omega
    · have hne : (xs.length : Int) ≤ (p : Int) + (k : Int) := by omega
      have hfin := hidden (show rdNext xs p none = (0, p, some 0) by
        unfold rdNext numC
        rw [hd.out, List.drop_eq_nil_of_le (by omega)]; rfl)
      have hF1 := hidden (hF.out 0)
      clear hF hlt
      go_wp2_with fail
      refine hF1.out.mono ?_
      rintro e w2 ⟨rfl, h2, ht⟩
      replace h2 := hidden h2
      replace ht := hidden ht
      go_wp2
      go_ret
      exact ⟨ret_int (by rw [hfin.out]), by rw [hfin.out]; exact h2.out, ht.out⟩
theorem refNum_next (w : World) (g : Nat) (bv : Value) (xs : List Int) (p : Nat) (bad : Option Nat) (h : RefR w g bv xs p bad) (hx : xs.length ≤ 1000000) (hbyte : ∀ x ∈ xs, 0 ≤ x ∧ x ≤ 255) :
    Calls Tryd.prog 17 #[.pointer (some ⟨g, 0, none⟩), .int .i64 (-9223372036854775808), .int .i64 9223372036854775807] w (RNumAt g bv xs p bad w) := by
  cases bad with
  | none => exact refNum_first w g bv xs p h hx hbyte
  | some c => exact refNum_stopped w g bv xs p c h
end Go.Proofs.YtjmpmlacaoelgaaDoor
