/-
  pledgelaw25.OpFields: for every kind, field and number.
-/
import Derived.Test.YtifjnjjmfnhkaaaDoorOpLaw
import Derived.Test.YtifjnjjmfnhkaaaDoorLaidOn
import Derived.Deep.CutBlock
namespace Go.Proofs.YtifjnjjmfnhkaaaDoor
open Go.RowKit
set_option linter.unusedVariables false

def fdF (P : Nat) (n : Int) : Nat → Int := fun p => if p = P then n else 0
def ofO (K P : Nat) (n : Int) : Opv := mkO 5 (K : Int) (fdF P n)
theorem fields_ok {K P : Nat} (h1 : 1 ≤ K) (h2 : K ≤ 16) (hP : P < 6) (n : Int) : opE (ofO K P n) = if 0 ≤ n ∧ n ≤ mxF K P then 0 else 103 := by
  have hkd : (ofO K P n).kd = (K : Int) := rfl
  by_cases h : 0 ≤ n ∧ n ≤ mxF K P
  · rw [if_pos h]
    refine op_fine.2 ⟨by show (1 : Int) ≤ 5 ∧ (5 : Int) ≤ _; decide, by rw [hkd]; omega, fun i hi => ?_⟩
    rw [fd_parts hkd i]
    refine decide_eq_true ?_
    unfold ofO
    rw [fo_mk _ _ _ i hi]
    unfold fdF
    by_cases e : i = P
    · subst e; rw [if_pos rfl]; exact h
    · rw [if_neg e]
      exact ⟨Int.le_refl _, (mxF_le K i).1⟩
  · rw [if_neg h]
    refine op_fd (i := P) (by show (1 : Int) ≤ 5 ∧ (5 : Int) ≤ _; decide) (by rw [hkd]; omega) hP ?_
    rw [fd_parts hkd P]
    refine decide_eq_false ?_
    unfold ofO
    rw [fo_mk _ _ _ P hP]
    unfold fdF
    rw [if_pos rfl]
    exact h
theorem uses_at16 (k : Nat) (h : k < 16) : ([bsV [65, 66, 78], bsV [65, 66, 67, 68, 78], bsV [65, 78], bsV [65, 78], bsV [65, 66, 78], bsV [78], bsV [65, 66, 67], bsV [65, 66, 78], bsV [65, 78], bsV [65, 66, 78], bsV [65, 66, 78], bsV [65, 66, 67, 78, 77], bsV [78], bsV [65, 78], bsV [65, 66, 78], bsV [78, 77]] : List Value)[k]'h = bsV (useS (k + 1)) := by
  have h16 : k = 0 ∨ k = 1 ∨ k = 2 ∨ k = 3 ∨ k = 4 ∨ k = 5 ∨ k = 6 ∨ k = 7 ∨ k = 8 ∨ k = 9 ∨ k = 10 ∨ k = 11 ∨ k = 12 ∨ k = 13 ∨ k = 14 ∨ k = 15 := by omega
  rcases h16 with rfl | rfl | rfl | rfl | rfl | rfl | rfl | rfl | rfl | rfl | rfl | rfl | rfl | rfl | rfl | rfl
  all_goals rfl
/-- a letter as a number. -/
def lcI (P : Nat) : Int := ((letL.getD P 0).toNat : Int)
theorem in_fin : ∀ (k : Fin 17) (i : Fin 6), (useS k.val).contains (letL.getD i.val 0) = usB k.val i.val := by decide +kernel
theorem in_all {K P : Nat} (hK : K ≤ 16) (hP : P < 6) : (useS K).contains (letL.getD P 0) = usB K P := in_fin ⟨K, by omega⟩ ⟨P, hP⟩
/-- is a letter among the first ones? -/
def ltB (l : List UInt8) (c : UInt8) (k : Nat) : Bool := (l.take k).contains c
theorem ltB_next {l : List UInt8} {c : UInt8} {k : Nat} (hk : k < l.length) : ltB l c (k + 1) = (ltB l c k || ((l.getD k 0).toNat == c.toNat)) := by
  unfold ltB
  have e : l.take (k + 1) = l.take k ++ [l.getD k 0] := by
    rw [List.take_succ_eq_append_getElem hk, List.getD_eq_getElem?_getD, List.getElem?_eq_getElem hk]; rfl
  rw [e]
  simp only [List.contains_eq_mem, List.mem_append, List.mem_singleton]
  by_cases h1 : c ∈ l.take k
  · simp [h1]
  · by_cases h2 : c = l.getD k 0
    · subst h2; simp
    · have h3 : ((l.getD k 0).toNat == c.toNat) = false := by rw [beq_eq_false_iff_ne]; exact fun e => h2 (UInt8.toNat_inj.1 e).symm
      rw [h3]
      simp only [h1, h2, or_self, decide_false, Bool.or_false]
theorem beq_castN (a b : Nat) : (((a : Int) == (b : Int)) : Bool) = (a == b) := by
  rw [Bool.eq_iff_iff, beq_iff_eq, beq_iff_eq]
  omega
theorem getD_get {U : List UInt8} {k : Nat} (hk : k < U.length) : U.getD k 0 = U[k] := by rw [List.getD_eq_getElem?_getD, List.getElem?_eq_getElem hk]; rfl
def msV (P : Nat) : Int := if P < 4 then 1048576 else 1000000000000000
theorem want_yes {k P : Nat} {n : Int} : decide (0 ≤ n ∧ n ≤ mxF k P) = true ↔ (n = 0 ∨ (usB k P = true ∧ 0 < n ∧ n ≤ msV P)) := by
  rw [decide_eq_true_iff]
  unfold mxF msV
  cases usB k P <;> by_cases hP : P < 4 <;> simp [hP] <;> omega
def n2V (n : Int) : Int := if n < -1 ∨ 1000000000000001 < n then n.tmod 3 else n
theorem n2_bd (n : Int) : -2 ≤ n2V n ∧ n2V n ≤ 1000000000000001 := by
  unfold n2V
  split
  · have h1 := Int.tmod_lt_of_pos n (show (0 : Int) < 3 by decide)
    have h2 := Int.lt_tmod_of_pos n (show (0 : Int) < 3 by decide)
    omega
  · omega
theorem n2_yes {n : Int} (h : decide (n < -1 ∨ 1000000000000001 < n) = true) : n2V n = n.tmod 3 := if_pos (of_decide_eq_true h)
theorem n2_no {n : Int} (h : decide (n < -1 ∨ 1000000000000001 < n) = false) : n2V n = n := if_neg (of_decide_eq_false h)
theorem OpAt.set25 {w : World} {g : Nat} {o x : Opv} {j : Nat} {v : Int} (h : OpAt w g o) (hx : #[Value.int .i64 x.id, Value.int .i64 x.kd, Value.int .i64 x.a, Value.int .i64 x.b, Value.int .i64 x.c, Value.int .i64 x.d, Value.int .i64 x.n, Value.int .i64 x.m] = (#[Value.int .i64 o.id, Value.int .i64 o.kd, Value.int .i64 o.a, Value.int .i64 o.b, Value.int .i64 o.c, Value.int .i64 o.d, Value.int .i64 o.n, Value.int .i64 o.m]).setIfInBounds j (.int .i64 v)) : OpAt (w.setCell ⟨g, j, none⟩ (.int .i64 v)) g x := by
  refine ⟨?_⟩
  rw [heap_setCell_row h.row _]
  unfold opO
  rw [hx]
set_option maxRecDepth 100000 in
set_option maxHeartbeats 6400000 in
theorem walk_opFields (a0 a1 a2 : Int) (A : Nat → Addr) (w : World) (b0 : -9223372036854775808 ≤ a0) (c0 : a0 ≤ 9223372036854775807) (b1 : -9223372036854775808 ≤ a1) (c1 : a1 ≤ 9223372036854775807) (b2 : -9223372036854775808 ≤ a2) (c2 : a2 ≤ 9223372036854775807) (hS : Sents w A) (hT : Lib.TabIs Tryd.prog w "internal/strconv.uint64pow10" .u64 Lib.pow10Tab) (hR : RowsOn w) :
    Calls Tryd.prog 4 #[.int .i64 a0, .int .i64 a1, .int .i64 a2] w fun e w' => e = .returned (.bool true) ∧ Below w.heap.size w w' := by
  have hE : OpEnv A w := ⟨hS, hR, hT⟩
  have hF := hidden (law25_first A w hE)
  have hEb := hidden (fun W (hb : Below w.heap.size w W) => hE.below hb (Nat.le_refl _))
  have nK := hidden (fun W => number_any a0 16 W b0 c0 (by decide) (by decide))
  have nP := hidden (fun W => number_any a1 6 W b1 c1 (by decide) (by decide))
  obtain ⟨K, hK⟩ : ∃ K : Nat, a0 % 16 = (K : Int) := ⟨(a0 % 16).toNat, by omega⟩
  obtain ⟨P, hP⟩ : ∃ P : Nat, a1 % 6 = (P : Int) := ⟨(a1 % 6).toNat, by omega⟩
  have hK16 : K < 16 := by omega
  have hP6 : P < 6 := by omega
  rw [hK] at nK
  rw [hP] at nP
  clear hE hS hT hR hK hP b0 c0 b1 c1
  go_enter Tryd.func4, Tryd.ntmps4
  go_wp2_with fail
  refine hF.out.mono ?_
  rintro e w1 ⟨rfl, hb1⟩
  replace hb1 := hidden hb1
  clear hF
  go_wp2_with fail
  refine (nK.out _).mono ?_
  rintro e w2 ⟨rfl, rfl⟩
  go_wp2_with fail
  refine (nP.out _).mono ?_
  rintro e w2 ⟨rfl, rfl⟩
  have hK0 : (0 : Int) ≤ (K : Int) := by omega
  have hK1 : (K : Int) < 16 := by omega
  have hu := hidden (uses_at16 K hK16)
  go_upto_region 6 with (fail)
  go_cut [8] (fun v wx => v = bsV (useS (K + 1)) ∧ Below w.heap.size w wx)
  case first =>
    go_wp2_with fail
    go_meet
    exact ⟨hu.out, hb1.out.alloc hb1.out.size _⟩
  case rest =>
    obtain ⟨rfl, hb⟩ := hcut
    replace hb := hidden hb
    clear hb1 hu nK nP
    go_upto_region 7 with (fail)
    go_cut [9] (fun v wx => v = .int .u8 (lcI P) ∧ wx = wc)
    case first =>
      have h6 : P = 0 ∨ P = 1 ∨ P = 2 ∨ P = 3 ∨ P = 4 ∨ P = 5 := by omega
      rcases h6 with rfl | rfl | rfl | rfl | rfl | rfl
      all_goals (go_wp2_with fail; go_meet; exact ⟨rfl, rfl⟩)
    case rest =>
      obtain ⟨rfl, rfl⟩ := hcut
      have hKK : (K : Int) + 1 = ((K + 1 : Nat) : Int) := rfl
      rw [hKK]
      clear hKK hK0 hK1
      obtain ⟨k1, hk1⟩ : ∃ k1 : Nat, k1 = K + 1 := ⟨_, rfl⟩
      rw [← hk1]
      have hk16 := hidden (show 1 ≤ k1 ∧ k1 ≤ 16 by omega)
      clear hk1 hK16
      go_upto_region 10 with (fail)
      have hO := hidden (show OpAt (wc.alloc (.cells #[.int .i64 5, .int .i64 (k1 : Int), .int .i64 0, .int .i64 0, .int .i64 0, .int .i64 0, .int .i64 0, .int .i64 0] 23)) wc.heap.size ⟨5, k1, 0, 0, 0, 0, 0, 0⟩ from ⟨heap_alloc_new wc _⟩)
      have hgw := hidden (show w.heap.size ≤ wc.heap.size from hb.out.size)
      replace hb := hidden (hb.out.alloc hb.out.size (.cells #[.int .i64 5, .int .i64 (k1 : Int), .int .i64 0, .int .i64 0, .int .i64 0, .int .i64 0, .int .i64 0, .int .i64 0] 23))
      generalize wc.alloc (.cells #[.int .i64 5, .int .i64 (k1 : Int), .int .i64 0, .int .i64 0, .int .i64 0, .int .i64 0, .int .i64 0, .int .i64 0] 23) = w3 at *
      generalize wc.heap.size = g at *
      go_cut [40] (fun v wx => v = .bool (decide (a2 < -1 ∨ 1000000000000001 < a2)) ∧ wx = w3)
      case first =>
        by_cases h1 : a2 < -1
        · have hd := hidden (show true = decide (a2 < -1 ∨ 1000000000000001 < a2) from (decide_eq_true (.inl h1)).symm)
          go_wp2_with fail
          go_meet
          exact ⟨by rw [hd.out], rfl⟩
        · by_cases h2 : 1000000000000001 < a2
          · have hd := hidden (show true = decide (a2 < -1 ∨ 1000000000000001 < a2) from (decide_eq_true (.inr h2)).symm)
            go_wp2_with fail
            go_meet
            exact ⟨by rw [← hd.out], rfl⟩
          · have hd := hidden (show false = decide (a2 < -1 ∨ 1000000000000001 < a2) from (decide_eq_false (by omega)).symm)
            go_wp2_with fail
            go_meet
            exact ⟨by rw [← hd.out], rfl⟩
      case rest =>
        obtain ⟨rfl, rfl⟩ := hcut
        have hyes := hidden (@n2_yes a2)
        have hno := hidden (@n2_no a2)
        have hn2 := hidden (n2_bd a2)
        generalize decide (a2 < -1 ∨ 1000000000000001 < a2) = bq at *
        go_upto_if 40 with (fail)
        go_cut [2] (fun v wx => v = .int .i64 (n2V a2) ∧ wx = wc)
        case first =>
          cases bq with
          | true =>
            replace hyes := hidden (hyes.out rfl)
            go_wp2_with fail
            go_meet
            exact ⟨by rw [hyes.out], rfl⟩
          | false =>
            replace hno := hidden (hno.out rfl)
            go_wp2_with fail
            go_meet
            exact ⟨by rw [hno.out], rfl⟩
        case rest =>
          obtain ⟨rfl, rfl⟩ := hcut
          clear hyes hno
          generalize n2V a2 = n at *
          go_upto_block 0 with (fail)
          go_cut [11] (fun v wx => v = .int .i64 (msV P) ∧ OpAt wx g (ofO k1 P n) ∧ Below w.heap.size w wx)
          case first =>
            obtain ⟨q0, q1, q2, q3, q4, q5, q6, q7⟩ := hO.out.cells
            simp only at q0 q1 q2 q3 q4 q5 q6 q7
            have f2 := hO.out.frozen 2
            have f3 := hO.out.frozen 3
            have f4 := hO.out.frozen 4
            have f5 := hO.out.frozen 5
            have f6 := hO.out.frozen 6
            have f7 := hO.out.frozen 7
            have h6 : P = 0 ∨ P = 1 ∨ P = 2 ∨ P = 3 ∨ P = 4 ∨ P = 5 := by omega
            rcases h6 with rfl | rfl | rfl | rfl | rfl | rfl
            all_goals (go_wp2_with fail; go_meet; exact ⟨rfl, hO.out.set25 rfl, hb.out.setCell hgw.out _⟩)
          case rest =>
            obtain ⟨rfl, hO2, hb2⟩ := hcut
            replace hO := hidden hO2
            replace hb := hidden hb2
            clear hO2 hb2
            have hU := hidden (in_all hk16.out.2 hP6)
            have hUl := hidden (show (useS k1).length ≤ 6 by have := (use_len hk16.out.2).1; simp [useS]; omega)
            have hUs := hidden (show (⟨(useS k1).toArray⟩ : ByteArray).size = (useS k1).length by simp [ByteArray.size])
            have hst := hidden (show ltB (useS k1) (letL.getD P 0) 0 = false by simp [ltB])
            have hen := hidden (show ltB (useS k1) (letL.getD P 0) (useS k1).length = usB k1 P by unfold ltB; rw [List.take_length]; exact hU.out)
            have hnx := hidden (fun k hk => @ltB_next (useS k1) (letL.getD P 0) k hk)
            unfold lcI
            generalize letL.getD P 0 = c at *
            generalize useS k1 = U at *
            clear hU
            go_wp2_with fail
            go_loop [12, 13] (fun b i => ∃ k : Nat, k ≤ U.length ∧ b = .bool (ltB U c k) ∧ i = .int .i64 (k : Int)) (fun _ i => U.length - (intOf i).toNat)
            case atStart => exact ⟨0, Nat.zero_le _, by rw [hst.out], rfl⟩
            case round =>
              obtain ⟨k, hk, rfl, rfl⟩ := hrel
              have hUs2 := hUs.out
              by_cases hlt : k < U.length
              · have hkI : (k : Int) < (U.length : Int) := by omega
                have hnx2 := hidden (hnx.out k hlt)
                rw [getD_get hlt] at hnx2
                have hUl2 := hUl.out
                generalize ltB U c k = b at *
                cases b with
                | true =>
                  go_wp2
                  refine ⟨⟨k + 1, hlt, by rw [hnx2.out]; rfl, by go_num⟩, by simp [intOf]; omega⟩
                | false =>
                  go_wp2
                  refine ⟨⟨k + 1, hlt, by rw [hnx2.out, beq_castN]; rfl, by go_num⟩, by simp [intOf]; omega⟩
              · obtain rfl : k = U.length := by omega
                rw [hen.out]
                have hw := hidden (@want_yes k1 P n)
                have hv1 := hidden (fun W (hb : Below w.heap.size w W) => opValid_any A (ofO k1 P n) W (((hEb.out W hb).sents).on [2, 10] (by decide)) (hEb.out W hb).rows)
                rw [fields_ok hk16.out.1 hk16.out.2 hP6 n] at hv1
                have hv2 := hidden (fun W (hb : Below w.heap.size w W) => opValid_any A (mkO 5 17 (fdF P n)) W (((hEb.out W hb).sents).on [2, 10] (by decide)) (hEb.out W hb).rows)
                rw [show opE (mkO 5 17 (fdF P n)) = 111 from op_kd (by show (1 : Int) ≤ 5 ∧ (5 : Int) ≤ _; decide) (by show ¬ ((1 : Int) ≤ 17 ∧ (17 : Int) ≤ 16); decide)] at hv2
                have hv3 := hidden (fun W (hb : Below w.heap.size w W) => opValid_any A (mkO 0 17 (fdF P n)) W (((hEb.out W hb).sents).on [2, 10] (by decide)) (hEb.out W hb).rows)
                rw [show opE (mkO 0 17 (fdF P n)) = 103 from op_id (by show ¬ ((1 : Int) ≤ 0 ∧ (0 : Int) ≤ _); decide)] at hv3
                have hi := hidden (fun W (hb : Below w.heap.size w W) k hk => is_self A k W (hEb.out W hb).sents hk)
                clear hst hen hnx hUl hlt hk hUs hUs2
                go_upto_region 31 with (fail)
                generalize usB k1 P = b at *
                generalize msV P = ms at *
                go_cut [14] (fun v wx => v = .bool (decide (0 ≤ n ∧ n ≤ mxF k1 P)) ∧ wx = wc)
                case first =>
                  by_cases h0 : n = 0
                  · have hd := hidden (show true = decide (0 ≤ n ∧ n ≤ mxF k1 P) from (hw.out.2 (.inl h0)).symm)
                    have hz : (n == 0) = true := by rw [beq_iff_eq]; exact h0
                    clear h0
                    go_wp2_with fail
                    go_meet
                    exact ⟨by rw [hd.out], rfl⟩
                  · have hz : (n == 0) = false := by rw [beq_eq_false_iff_ne]; exact h0
                    have hno := hidden (fun (h : ¬ (b = true ∧ 0 < n ∧ n ≤ ms)) => show false = decide (0 ≤ n ∧ n ≤ mxF k1 P) from (Bool.eq_false_iff.2 fun e => (hw.out.1 e).elim h0 h).symm)
                    clear h0
                    cases b with
                    | false =>
                      have hd := hidden (hno.out (by simp))
                      go_wp2_with fail
                      go_meet
                      exact ⟨by rw [hd.out], rfl⟩
                    | true =>
                      by_cases h1 : 0 < n
                      · have h1b : decide (0 < n) = true := decide_eq_true h1
                        by_cases h2 : n ≤ ms
                        · have hd := hidden (show true = decide (0 ≤ n ∧ n ≤ mxF k1 P) from (hw.out.2 (.inr ⟨rfl, h1, h2⟩)).symm)
                          have h2b : decide (n ≤ ms) = true := decide_eq_true h2
                          clear h1 h2
                          go_wp2_with fail
                          go_meet
                          exact ⟨by rw [← hd.out], rfl⟩
                        · have hd := hidden (hno.out (fun e => h2 e.2.2))
                          have h2b : decide (n ≤ ms) = false := decide_eq_false h2
                          clear h1 h2
                          go_wp2_with fail
                          go_meet
                          exact ⟨by rw [← hd.out], rfl⟩
                      · have hd := hidden (hno.out (fun e => h1 e.2.1))
                        have h1b : decide (0 < n) = false := decide_eq_false h1
                        clear h1
                        go_wp2_with fail
                        go_meet
                        exact ⟨by rw [← hd.out], rfl⟩
                case rest =>
                  obtain ⟨rfl, rfl⟩ := hcut
                  clear hw
                  obtain ⟨q0, q1, q2, q3, q4, q5, q6, q7⟩ := hO.out.cells
                  have f0 := hO.out.frozen 0
                  have f1 := hO.out.frozen 1
                  replace hv1 := hidden (hv1.out _ hb.out)
                  have hcase : (decide (0 ≤ n ∧ n ≤ mxF k1 P) = true ∧ (if 0 ≤ n ∧ n ≤ mxF k1 P then (0 : Int) else 103) = 0) ∨ (decide (0 ≤ n ∧ n ≤ mxF k1 P) = false ∧ (if 0 ≤ n ∧ n ≤ mxF k1 P then (0 : Int) else 103) = 103) := by
                    by_cases h : 0 ≤ n ∧ n ≤ mxF k1 P
                    · exact .inl ⟨decide_eq_true h, if_pos h⟩
                    · exact .inr ⟨decide_eq_false h, if_neg h⟩
                  replace hcase := hidden hcase
                  generalize hcd : decide (0 ≤ n ∧ n ≤ mxF k1 P) = cd at *
                  generalize hce : (if 0 ≤ n ∧ n ≤ mxF k1 P then (0 : Int) else 103) = ce at *
                  clear hcd hce
                  rcases hcase.out with ⟨rfl, rfl⟩ | ⟨rfl, rfl⟩
                  · rw [show errOf A 0 = .nilIface from rfl] at hv1
                    go_wp2_with fail
                    refine hv1.out.mono ?_
                    rintro e w4 ⟨rfl, hb4⟩
                    have hO4 := hO.out.below hb4
                    replace hb := hidden (hb.out.trans (hb4.mono hb.out.size))
                    clear hv1 hb4 q0 q1 q2 q3 q4 q5 q6 q7 f0 f1
                    obtain ⟨q0, q1, q2, q3, q4, q5, q6, q7⟩ := hO4.cells
                    have f1 := hO4.frozen 1
                    have hO5 := hidden (hO4.set25 (x := mkO 5 17 (fdF P n)) (j := 1) (v := 17) rfl)
                    replace hb := hidden (hb.out.setCell (p := ⟨g, 1, none⟩) hgw.out (.int .i64 17))
                    go_wp2_with fail
                    generalize w4.setCell ⟨g, 1, none⟩ (.int .i64 17) = w5 at *
                    refine (hv2.out _ hb.out).mono ?_
                    rintro e w6 ⟨rfl, hb6⟩
                    have hO6 := hO5.out.below hb6
                    replace hb := hidden (hb.out.trans (hb6.mono hb.out.size))
                    clear hb6 q0 q1 q2 q3 q4 q5 q6 q7 f1 hO4 hv2
                    obtain ⟨q0, q1, q2, q3, q4, q5, q6, q7⟩ := hO6.cells
                    have f0 := hO6.frozen 0
                    have hO7 := hidden (hO6.set25 (x := mkO 0 17 (fdF P n)) (j := 0) (v := 0) rfl)
                    replace hb := hidden (hb.out.setCell (p := ⟨g, 0, none⟩) hgw.out (.int .i64 0))
                    go_wp2_with fail
                    generalize w6.setCell ⟨g, 0, none⟩ (.int .i64 0) = w7 at *
                    refine (hv3.out _ hb.out).mono ?_
                    rintro e w8 ⟨rfl, hb8⟩
                    replace hb := hidden (hb.out.trans (hb8.mono hb.out.size))
                    clear hb8 q0 q1 q2 q3 q4 q5 q6 q7 f0 hO6 hO5 hO7 hv3 hO
                    go_wp2_with fail
                    refine (hi.out _ hb.out 111 (.inr ⟨by decide, by decide⟩)).mono ?_
                    rintro e w9 ⟨rfl, hb9⟩
                    replace hb := hidden (hb.out.trans (hb9.mono hb.out.size))
                    clear hb9
                    go_wp2_with fail
                    refine (hi.out _ hb.out 103 (.inr ⟨by decide, by decide⟩)).mono ?_
                    rintro e w9 ⟨rfl, hb9⟩
                    replace hb := hidden (hb.out.trans (hb9.mono hb.out.size))
                    clear hb9
                    go_wp2
                    go_ret
                    exact ⟨rfl, hb.out⟩
                  · rw [show errOf A 103 = errAt (A 2) from rfl] at hv1
                    go_wp2_with fail
                    refine hv1.out.mono ?_
                    rintro e w4 ⟨rfl, hb4⟩
                    have hO4 := hO.out.below hb4
                    replace hb := hidden (hb.out.trans (hb4.mono hb.out.size))
                    clear hv1 hb4 q0 q1 q2 q3 q4 q5 q6 q7 f0 f1
                    obtain ⟨q0, q1, q2, q3, q4, q5, q6, q7⟩ := hO4.cells
                    have f1 := hO4.frozen 1
                    have hO5 := hidden (hO4.set25 (x := mkO 5 17 (fdF P n)) (j := 1) (v := 17) rfl)
                    replace hb := hidden (hb.out.setCell (p := ⟨g, 1, none⟩) hgw.out (.int .i64 17))
                    go_wp2_with fail
                    generalize w4.setCell ⟨g, 1, none⟩ (.int .i64 17) = w5 at *
                    refine (hv2.out _ hb.out).mono ?_
                    rintro e w6 ⟨rfl, hb6⟩
                    have hO6 := hO5.out.below hb6
                    replace hb := hidden (hb.out.trans (hb6.mono hb.out.size))
                    clear hb6 q0 q1 q2 q3 q4 q5 q6 q7 f1 hO4 hv2
                    obtain ⟨q0, q1, q2, q3, q4, q5, q6, q7⟩ := hO6.cells
                    have f0 := hO6.frozen 0
                    have hO7 := hidden (hO6.set25 (x := mkO 0 17 (fdF P n)) (j := 0) (v := 0) rfl)
                    replace hb := hidden (hb.out.setCell (p := ⟨g, 0, none⟩) hgw.out (.int .i64 0))
                    go_wp2_with fail
                    generalize w6.setCell ⟨g, 0, none⟩ (.int .i64 0) = w7 at *
                    refine (hv3.out _ hb.out).mono ?_
                    rintro e w8 ⟨rfl, hb8⟩
                    replace hb := hidden (hb.out.trans (hb8.mono hb.out.size))
                    clear hb8 q0 q1 q2 q3 q4 q5 q6 q7 f0 hO6 hO5 hO7 hv3 hO
                    go_wp2_with fail
                    refine (hi.out _ hb.out 103 (.inr ⟨by decide, by decide⟩)).mono ?_
                    rintro e w9 ⟨rfl, hb9⟩
                    replace hb := hidden (hb.out.trans (hb9.mono hb.out.size))
                    clear hb9
                    go_wp2_with fail
                    refine (hi.out _ hb.out 111 (.inr ⟨by decide, by decide⟩)).mono ?_
                    rintro e w9 ⟨rfl, hb9⟩
                    replace hb := hidden (hb.out.trans (hb9.mono hb.out.size))
                    clear hb9
                    go_wp2_with fail
                    refine (hi.out _ hb.out 103 (.inr ⟨by decide, by decide⟩)).mono ?_
                    rintro e w9 ⟨rfl, hb9⟩
                    replace hb := hidden (hb.out.trans (hb9.mono hb.out.size))
                    clear hb9
                    go_wp2
                    go_ret
                    exact ⟨rfl, hb.out⟩
end Go.Proofs.YtifjnjjmfnhkaaaDoor
