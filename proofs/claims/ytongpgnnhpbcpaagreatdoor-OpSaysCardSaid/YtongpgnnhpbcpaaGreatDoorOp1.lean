/-
  Package op: its table, which fields a kind uses, its word, Valid; whether a list of bytes is a kind's word.
-/
import Derived.Test.YtongpgnnhpbcpaaGreatDoorOpLays
import Derived.Test.YtongpgnnhpbcpaaGreatDoorOpMath
import Derived.Test.YtongpgnnhpbcpaaGreatDoorSee
import Derived.Test.YtongpgnnhpbcpaaGreatDoorLaw
import Derived.Test.YtongpgnnhpbcpaaGreatDoorBase
import Derived.RegionTactic
namespace Go.Proofs.YtongpgnnhpbcpaaGreatDoor
open Go.RowKit
set_option linter.unusedVariables false

/-- bytes as a string. -/
abbrev bsV (l : List UInt8) : Value := .string ⟨l.toArray⟩
/-- the table of kinds. -/
def RowsOn (w : World) : Prop := ∀ k : Nat, k ≤ 16 → w.cell? ⟨2, k * 2, none⟩ = some (bsV (nmS k)) ∧ w.cell? ⟨2, k * 2 + 1, none⟩ = some (bsV (useS k))
theorem RowsOn.same {w w' : World} (h : RowsOn w) (hb : ∀ i, i < w.heap.size → w'.heap[i]? = w.heap[i]?) : RowsOn w' := fun k hk => by
  obtain ⟨h1, h2⟩ := h k hk
  rw [World.cell?_of_block (w := w) (hb _ (World.block_lt_of_cell? w _ h1))]
  rw [World.cell?_of_block (w := w) (hb _ (World.block_lt_of_cell? w _ h2))]
  exact ⟨h1, h2⟩
theorem RowsOn.below {w w' : World} {B : Nat} (h : RowsOn w) (hb : Below B w w') (hB : w.heap.size ≤ B) : RowsOn w' := h.same fun i hi => hb.block i (by omega)

theorem uses_any (K i : Nat) (w : World) (hR : RowsOn w) (hK : K ≤ 16) (hi : i < 6) :
    Calls Tryz.prog 53 #[.int .i64 (K : Int), .int .i64 (i : Int)] w fun e w' => e = .returned (.bool (usB K i)) ∧ ∃ m, w' = w.drewN m := by
  have hc := (hR K hK).2
  have hu := hidden (idx_use hK hi)
  have hix := hidden (fun m c => index_any25 ⟨(useS K).toArray⟩ c (w.drewN m))
  have hK0 : (0 : Int) ≤ (K : Int) := by omega
  have hK1 : (K : Int) < 17 := by omega
  clear hR
  have h6 : i = 0 ∨ i = 1 ∨ i = 2 ∨ i = 3 ∨ i = 4 ∨ i = 5 := by omega
  rcases h6 with rfl | rfl | rfl | rfl | rfl | rfl
  all_goals
    go_enter Tryz.func53, Tryz.ntmps53
    go_wp2_with fail
    go_quiet ((go_at_call 64; exact Calls.quiet_of_same (hix.out _ _)))
    go_wp2
    go_ret
    exact ⟨ret_bool hu.out, _, rfl⟩
theorem most_any (K i : Nat) (w : World) (hR : RowsOn w) (hK : K ≤ 16) (hi : i < 6) :
    Calls Tryz.prog 28 #[.int .i64 (K : Int), .int .i64 (i : Int)] w fun e w' => e = .returned (.int .i64 (mxF K i)) ∧ ∃ m, w' = w.drewN m := by
  have hu := hidden (uses_any K i w hR hK hi)
  have hx := hidden (show mxF K i = if usB K i = true then (if i < 4 then 1048576 else 1000000000000000) else 0 from rfl)
  generalize usB K i = b at hu hx
  clear hR hK
  have h6 : i = 0 ∨ i = 1 ∨ i = 2 ∨ i = 3 ∨ i = 4 ∨ i = 5 := by omega
  rcases h6 with rfl | rfl | rfl | rfl | rfl | rfl
  all_goals
    cases b
    all_goals
      go_enter Tryz.func28, Tryz.ntmps28
      go_wp2_with fail
      refine hu.out.mono ?_
      rintro e w' ⟨rfl, m, rfl⟩
      go_wp2
      go_ret
      exact ⟨ret_int hx.out.symm, _, rfl⟩
theorem isKind_any (kd : Int) (w : World) :
    Calls Tryz.prog 27 #[.int .i64 kd] w fun e w' => e = .returned (.bool (decide (1 ≤ kd ∧ kd ≤ 16))) ∧ w' = w := by
  by_cases h1 : 1 ≤ kd
  · by_cases h2 : kd ≤ 16
    · have hx := hidden (show decide (1 ≤ kd ∧ kd ≤ 16) = true from decide_eq_true ⟨h1, h2⟩)
      go_enter Tryz.func27, Tryz.ntmps27
      go_wp2
      go_ret
      exact ⟨ret_bool (by first | exact hx.out.symm | (simp; omega)), rfl⟩
    · have hx := hidden (show decide (1 ≤ kd ∧ kd ≤ 16) = false from decide_eq_false (by omega))
      go_enter Tryz.func27, Tryz.ntmps27
      go_wp2
      go_ret
      exact ⟨ret_bool (by first | exact hx.out.symm | (simp; omega)), rfl⟩
  · have hx := hidden (show decide (1 ≤ kd ∧ kd ≤ 16) = false from decide_eq_false (by omega))
    go_enter Tryz.func27, Tryz.ntmps27
    go_wp2
    go_ret
    exact ⟨ret_bool (by first | exact hx.out.symm | (simp; omega)), rfl⟩
theorem nmV_in {kd : Int} {K : Nat} (h : kd = (K : Int)) (h1 : 1 ≤ K) (h2 : K ≤ 16) : nmV kd = nmS K := by
  subst h
  unfold nmV
  rw [if_pos (by omega), Int.toNat_natCast]
theorem name_any (kd : Int) (w : World) (hR : RowsOn w) :
    Calls Tryz.prog 9 #[.int .i64 kd] w fun e w' => e = .returned (bsV (nmV kd)) ∧ w' = w := by
  have hI := hidden (isKind_any kd w)
  by_cases h : 1 ≤ kd ∧ kd ≤ 16
  · obtain ⟨K, rfl⟩ := Int.eq_ofNat_of_zero_le (show 0 ≤ kd by omega)
    have hc := (hR K (by omega)).1
    have hx := hidden (nmV_in (kd := (K : Int)) rfl (by omega) (by omega))
    rw [decide_eq_true h] at hI
    have hK0 : (0 : Int) ≤ (K : Int) := by omega
    have hK1 : (K : Int) < 17 := by omega
    clear hR h
    go_enter Tryz.func9, Tryz.ntmps9
    go_wp2_with fail
    refine hI.out.mono ?_
    rintro e w' ⟨rfl, rfl⟩
    go_wp2
    go_ret
    exact ⟨by rw [hx.out]; rfl, rfl⟩
  · have hx := hidden (show nmV kd = [] from if_neg h)
    rw [decide_eq_false h] at hI
    clear hR h
    go_enter Tryz.func9, Tryz.ntmps9
    go_wp2_with fail
    refine hI.out.mono ?_
    rintro e w' ⟨rfl, rfl⟩
    go_wp2
    go_ret
    exact ⟨by rw [hx.out]; rfl, rfl⟩

/-! fieldsOf, Valid -/
/-- an operation as a value, its six fields as one. -/
abbrev opV (o : Opv) : Value := .agg #[.int .i64 o.id, .int .i64 o.kd, .int .i64 o.a, .int .i64 o.b, .int .i64 o.c, .int .i64 o.d, .int .i64 o.n, .int .i64 o.m]
abbrev opO (o : Opv) : Obj := .cells #[.int .i64 o.id, .int .i64 o.kd, .int .i64 o.a, .int .i64 o.b, .int .i64 o.c, .int .i64 o.d, .int .i64 o.n, .int .i64 o.m] 23
abbrev fldV (f : Nat → Int) : Value := .agg #[.int .i64 (f 0), .int .i64 (f 1), .int .i64 (f 2), .int .i64 (f 3), .int .i64 (f 4), .int .i64 (f 5)]
theorem fld_at0 (f : Nat → Int) (w : World) : (Instr.index 53 (fldV f) (.int .i64 0)).run Tryz.prog w = .ok (.int .i64 (f 0)) w := by kernel_rfl
theorem fld_at1 (f : Nat → Int) (w : World) : (Instr.index 53 (fldV f) (.int .i64 1)).run Tryz.prog w = .ok (.int .i64 (f 1)) w := by kernel_rfl
theorem fld_at2 (f : Nat → Int) (w : World) : (Instr.index 53 (fldV f) (.int .i64 2)).run Tryz.prog w = .ok (.int .i64 (f 2)) w := by kernel_rfl
theorem fld_at3 (f : Nat → Int) (w : World) : (Instr.index 53 (fldV f) (.int .i64 3)).run Tryz.prog w = .ok (.int .i64 (f 3)) w := by kernel_rfl
theorem fld_at4 (f : Nat → Int) (w : World) : (Instr.index 53 (fldV f) (.int .i64 4)).run Tryz.prog w = .ok (.int .i64 (f 4)) w := by kernel_rfl
theorem fld_at5 (f : Nat → Int) (w : World) : (Instr.index 53 (fldV f) (.int .i64 5)).run Tryz.prog w = .ok (.int .i64 (f 5)) w := by kernel_rfl
theorem fld_at (f : Nat → Int) (k : Nat) (hk : k < 6) (w : World) : (Instr.index 53 (fldV f) (.int .i64 (k : Int))).run Tryz.prog w = .ok (.int .i64 (f k)) w :=
  match k, hk with
  | 0, _ => fld_at0 f w
  | 1, _ => fld_at1 f w
  | 2, _ => fld_at2 f w
  | 3, _ => fld_at3 f w
  | 4, _ => fld_at4 f w
  | 5, _ => fld_at5 f w
theorem fieldsOf_any (o : Opv) (w : World) :
    Calls Tryz.prog 24 #[opV o] w fun e w' => e = .returned (fldV (fo o)) ∧ Below w.heap.size w w' := by
  obtain ⟨id, kd, a, b, c, d, n, m⟩ := o
  go_enter Tryz.func24, Tryz.ntmps24
  go_wp2_with fail
  refine bodyPost_ret (v := .agg #[.int .i64 a, .int .i64 b, .int .i64 c, .int .i64 d, .int .i64 n, .int .i64 m]) (by simp [results, Tryz.results24, go_sem]) rfl ⟨rfl, ?_⟩
  exact ((Below.refl w.heap.size w).alloc (Nat.le_refl _) _).alloc (by simp) _

theorem fd_parts {o : Opv} {K : Nat} (hk : o.kd = (K : Int)) (i : Nat) : fdOk o i = decide (0 ≤ fo o i ∧ fo o i ≤ mxF K i) := by
  unfold fdOk
  rw [hk, Int.toNat_natCast]
theorem ret_err {A : Nat → Addr} {c d : Int} (h : c = d) : Ending.returned (errOf A c) = .returned (errOf A d) := by rw [h]
def VaRel (f : Nat → Int) (K : Nat) (w1 : World) (i : Value) (wr : World) : Prop := ∃ k : Nat, k ≤ 6 ∧ i = .int .i64 (k : Int) ∧ (∀ j, j < k → decide (0 ≤ f j ∧ f j ≤ mxF K j) = true) ∧ Below w1.heap.size w1 wr
theorem opValid_any (A : Nat → Addr) (o : Opv) (w : World) (hS : ErrsOn [2, 10] w A) (hR : RowsOn w) :
    Calls Tryz.prog 8 #[opV o] w fun e w' => e = .returned (errOf A (opE o)) ∧ Below w.heap.size w w' := by
  have hw1 : Below w.heap.size w (w.alloc (opO o)) := (Below.refl _ _).alloc (Nat.le_refl _) _
  have c2 : (w.alloc (opO o)).cell? ⟨0, 0, none⟩ = some (errAt (A 2)) := hS.below hw1 (Nat.le_refl _) 2 (by simp)
  have c10 : (w.alloc (opO o)).cell? ⟨1, 0, none⟩ = some (errAt (A 10)) := hS.below hw1 (Nat.le_refl _) 10 (by simp)
  have hS1 := hidden (hS.below hw1 (Nat.le_refl _))
  have hR1 := hidden (hR.below hw1 (Nat.le_refl _))
  replace hw1 := hidden hw1
  have hsz := hidden (show (w.alloc (opO o)).heap.size = w.heap.size + 1 by simp)
  have hrow := hidden (heap_alloc_new w (opO o))
  clear hS hR
  obtain ⟨id, kd, a, b, c, d, n, m⟩ := o
  by_cases hid : 1 ≤ id ∧ id ≤ 1099511627776
  · by_cases hkd : 1 ≤ kd ∧ kd ≤ 16
    · obtain ⟨K, rfl⟩ := Int.eq_ofNat_of_zero_le (show 0 ≤ kd by omega)
      have hK := hidden (show K ≤ 16 by omega)
      have hF := hidden (fun W => fieldsOf_any ⟨id, K, a, b, c, d, n, m⟩ W)
      have hI := hidden (fun W => isKind_any (K : Int) W)
      rw [decide_eq_true hkd] at hI
      have hbad := hidden (fun i (hi : i < 6) (h : decide (0 ≤ fo ⟨id, K, a, b, c, d, n, m⟩ i ∧ fo ⟨id, K, a, b, c, d, n, m⟩ i ≤ mxF K i) = false) => op_fd (o := ⟨id, K, a, b, c, d, n, m⟩) hid hkd hi (by rw [fd_parts (K := K) rfl i]; exact h))
      have hgood := hidden (fun (h : ∀ i, i < 6 → decide (0 ≤ fo ⟨id, K, a, b, c, d, n, m⟩ i ∧ fo ⟨id, K, a, b, c, d, n, m⟩ i ≤ mxF K i) = true) => (op_fine (o := ⟨id, K, a, b, c, d, n, m⟩)).2 ⟨hid, hkd, fun i hi => by rw [fd_parts (K := K) rfl i]; exact h i hi⟩)
      generalize opE ⟨id, K, a, b, c, d, n, m⟩ = q at *
      generalize fo ⟨id, K, a, b, c, d, n, m⟩ = f at *
      have hid1 := hid.1
      have hid2 := hid.2
      clear hid hkd
      go_enter Tryz.func8, Tryz.ntmps8
      go_wp2_with fail
      refine (hI.out _).mono ?_
      rintro e w' ⟨rfl, rfl⟩
      go_wp2_with fail
      generalize hW1 : w.alloc (opO ⟨id, K, a, b, c, d, n, m⟩) = w1 at *
      refine (hF.out _).mono ?_
      rintro e w2 ⟨rfl, hb2⟩
      replace hb2 := hidden hb2
      clear hF hI c2 c10 hW1
      go_wp2_with fail
      go_loopw [21] (fun i wr => VaRel f K w1 i wr) (fun i _ => 6 - (intOf i).toNat)
      case atStart => exact ⟨0, by decide, rfl, fun j hj => by omega, hb2.out⟩
      case round =>
        clear hb2
        obtain ⟨k, hk, rfl, hj, hb⟩ := hrel
        replace hj := hidden hj
        have hr2 := hidden (show wr.heap[w.heap.size]? = _ from (hb.block _ (by rw [hsz.out]; omega)).trans hrow.out)
        obtain ⟨hc, hf⟩ := cells_of_block hr2.out
        have k1 : wr.cell? ⟨w.heap.size, 1, none⟩ = some (.int .i64 (K : Int)) := hc 1
        clear hc hf
        have c2 : wr.cell? ⟨0, 0, none⟩ = some (errAt (A 2)) := hS1.out.below hb (Nat.le_refl _) 2 (by simp)
        replace hb := hidden hb
        by_cases hlt : k < 6
        · have hix := fld_at f k hlt
          have hm := hidden (most_any K k wr (hR1.out.below hb.out (Nat.le_refl _)) hK.out hlt)
          have hkI : (k : Int) < 6 := by omega
          have hb6 := hidden (hbad.out k hlt)
          by_cases h0 : f k < 0
          · have hq := hidden (hb6.out (decide_eq_false (by omega)))
            clear hm hb6
            go_wp2_with fail
            go_ret
            exact ⟨by rw [hq.out]; rfl, hw1.out.trans (hb.out.mono (by rw [hsz.out]; omega))⟩
          · by_cases h1 : mxF K k < f k
            · have hq := hidden (hb6.out (decide_eq_false (by omega)))
              generalize mxF K k = mx at *
              clear hb6
              go_wp2_with fail
              refine hm.out.mono ?_
              rintro e w3 ⟨rfl, mm, rfl⟩
              go_wp2
              go_ret
              exact ⟨by rw [hq.out]; rfl, hw1.out.trans ((below_drewN hb.out).mono (by rw [hsz.out]; omega))⟩
            · have hnew := hidden (show ∀ j, j < k + 1 → decide (0 ≤ f j ∧ f j ≤ mxF K j) = true from fun j hjk => by
                rcases Nat.lt_or_ge j k with h | h
                · exact hj.out j h
                · obtain rfl : j = k := by omega
                  exact decide_eq_true ⟨by omega, by omega⟩)
              generalize mxF K k = mx at hm h1
              clear hb6
              go_wp2_with fail
              refine hm.out.mono ?_
              rintro e w3 ⟨rfl, mm, rfl⟩
              go_wp2
              go_roundw
              case rel => exact ⟨k + 1, hlt, by go_num, hnew.out, below_drewN hb.out⟩
              case measure => simp [intOf]; omega
        · obtain rfl : k = 6 := by omega
          have hq := hidden (hgood.out fun i hi => hj.out i hi)
          go_wp2
          go_ret
          exact ⟨by rw [hq.out]; rfl, hw1.out.trans (hb.out.mono (by rw [hsz.out]; omega))⟩
    · have hq := hidden (op_kd (o := ⟨id, kd, a, b, c, d, n, m⟩) hid hkd)
      have hI := hidden (fun W => isKind_any kd W)
      rw [decide_eq_false hkd] at hI
      rw [hq.out]
      have hid1 := hid.1
      have hid2 := hid.2
      clear hid hkd
      go_enter Tryz.func8, Tryz.ntmps8
      go_wp2_with fail
      refine (hI.out _).mono ?_
      rintro e w' ⟨rfl, rfl⟩
      go_wp2
      go_ret
      exact ⟨rfl, hw1.out⟩
  · have hq := hidden (op_id (o := ⟨id, kd, a, b, c, d, n, m⟩) hid)
    rw [hq.out]
    by_cases h1 : id < 1
    · clear hid
      go_enter Tryz.func8, Tryz.ntmps8
      go_wp2
      go_ret
      exact ⟨rfl, hw1.out⟩
    · have h2 : 1099511627776 < id := by omega
      clear hid
      go_enter Tryz.func8, Tryz.ntmps8
      go_wp2
      go_ret
      exact ⟨rfl, hw1.out⟩
end Go.Proofs.YtongpgnnhpbcpaaGreatDoor
