/-
  pledgeref.SameBytes: are two lists of bytes the same?
  pledgeref.SameInts: are two lists of numbers the same?
  Errors by their numbers: what an error is as a value; that some sentinels are there; pledgesee.Is.
  pledgesee.Is of an error and its own number.
  pledgeref.Ints: a copy in new memory; a cell of it written.
-/
import Derived.Test.YtongpgnnhpbcpaaGreatDoorProg
import Derived.Test.YtongpgnnhpbcpaaGreatDoorBase
import Derived.WalkSpells
import Derived.WalkLawsBesides
import Derived.Outline
import Derived.LaidEql
import Derived.Deep.RegionHeld3
import Derived.Deep.QuietTactic
import Derived.BigQuiet
namespace Go.Proofs.YtongpgnnhpbcpaaGreatDoor
open Go.RowKit

/-- the value of a sentinel error that lies at a. -/
abbrev errAt (a : Addr) : Value := .iface 149 (.pointer (some a))
/-- a fault as a value. -/
abbrev faultV (c : Int) (pl : Bool) (p : Int) : Value := .agg #[.int .i64 c, .bool pl, .int .i64 p]

theorem fault_none (w : World) : Calls Tryz.prog 45 #[] w fun e w' => e = .returned (faultV 0 false 0) ∧ Below w.heap.size w w' := by
  go_enter Tryz.func45, Tryz.ntmps45
  go_wp2
  exact bodyPost_ret (v := faultV 0 false 0) (by simp [results, Tryz.results45, go_sem]) rfl ⟨rfl, (Below.refl _ _).alloc (Nat.le_refl _) _⟩

theorem fault_bare (c : Int) (w : World) : Calls Tryz.prog 26 #[.int .i64 c] w fun e w' => e = .returned (faultV c false 0) ∧ Below w.heap.size w w' := by
  go_enter Tryz.func26, Tryz.ntmps26
  go_wp2
  exact bodyPost_ret (v := faultV c false 0) (by simp [results, Tryz.results26, go_sem]) rfl ⟨rfl, (Below.refl _ _).alloc (Nat.le_refl _) _⟩

theorem fault_placed (c p : Int) (w : World) (hc : (c == 0) = false) : Calls Tryz.prog 61 #[.int .i64 c, .int .i64 p] w fun e w' => e = .returned (faultV c true p) ∧ Below w.heap.size w w' := by
  go_enter Tryz.func61, Tryz.ntmps61
  go_wp2
  exact bodyPost_ret (v := faultV c true p) (by simp [results, Tryz.results61, go_sem]) rfl ⟨rfl, (Below.refl _ _).alloc (Nat.le_refl _) _⟩
/-- where the sentinels stand, in the order of their numbers. -/
def sentG : List Nat := [7, 4, 0, 9, 3, 10, 11, 12, 13, 14, 1, 15, 16, 17, 18, 19, 20, 5, 6, 21, 22]
/-- the same, where the seat has all of them. -/
def sentAll : List Nat := [7, 4, 0, 9, 3, 10, 11, 12, 13, 14, 1, 15, 16, 17, 18, 19, 20, 5, 6, 21, 22]
def sentCells (A : Nat → Addr) : Array Value := #[errAt (A 0), errAt (A 1), errAt (A 2), errAt (A 3), errAt (A 4), errAt (A 5), errAt (A 6), errAt (A 7), errAt (A 8), errAt (A 9), errAt (A 10), errAt (A 11), errAt (A 12), errAt (A 13), errAt (A 14), errAt (A 15), errAt (A 16), errAt (A 17), errAt (A 18), errAt (A 19), errAt (A 20)]
/-- The sentinels are there, each of them another one. -/
structure Sents (w : World) (A : Nat → Addr) : Prop where
  cell : ∀ i, i < 21 → w.cell? ⟨sentG.getD i 0, 0, none⟩ = some (errAt (A i))
  apart : ∀ i j, i < 21 → j < 21 → A i = A j → i = j
  block : ∀ i, i < 21 → ∃ cs t, w.heap[(A i).block]? = some (.cells cs t (0, 0))
theorem Sents.same {w w' : World} {A : Nat → Addr} (h : Sents w A) (hb : ∀ i, i < w.heap.size → w'.heap[i]? = w.heap[i]?) : Sents w' A where
  cell := fun i hi => by
    have := h.cell i hi
    rw [World.cell?_of_block (w := w) (hb _ (World.block_lt_of_cell? w _ this))]; exact this
  apart := h.apart
  block := fun i hi => by
    obtain ⟨cs, t, hc⟩ := h.block i hi
    exact ⟨cs, t, by rw [hb _ (Array.getElem?_eq_some_iff.1 hc).1]; exact hc⟩
theorem Sents.below {w w' : World} {A : Nat → Addr} {B : Nat} (h : Sents w A) (hb : Below B w w') (hB : w.heap.size ≤ B) : Sents w' A := h.same fun i hi => hb.block i (by omega)
theorem sentCells_at (A : Nat → Addr) (k : Nat) (h : k < 21) : (sentCells A)[k]? = some (errAt (A k)) := by
  match k, h with
  | 0, _ => rfl
  | 1, _ => rfl
  | 2, _ => rfl
  | 3, _ => rfl
  | 4, _ => rfl
  | 5, _ => rfl
  | 6, _ => rfl
  | 7, _ => rfl
  | 8, _ => rfl
  | 9, _ => rfl
  | 10, _ => rfl
  | 11, _ => rfl
  | 12, _ => rfl
  | 13, _ => rfl
  | 14, _ => rfl
  | 15, _ => rfl
  | 16, _ => rfl
  | 17, _ => rfl
  | 18, _ => rfl
  | 19, _ => rfl
  | 20, _ => rfl
  | k + 21, h => omega

theorem sentinels_any (A : Nat → Addr) (w : World) (h : Sents w A) :
    Calls Tryz.prog 74 #[] w fun e w' => e = .returned (.slice (some ⟨w.heap.size, 0, none⟩) 21 21) ∧ w.alloc (.cells (sentCells A) 29) = w' := by
  have h0 : w.cell? ⟨7, 0, none⟩ = some (errAt (A 0)) := h.cell 0 (by decide)
  have h1 : w.cell? ⟨4, 0, none⟩ = some (errAt (A 1)) := h.cell 1 (by decide)
  have h2 : w.cell? ⟨0, 0, none⟩ = some (errAt (A 2)) := h.cell 2 (by decide)
  have h3 : w.cell? ⟨9, 0, none⟩ = some (errAt (A 3)) := h.cell 3 (by decide)
  have h4 : w.cell? ⟨3, 0, none⟩ = some (errAt (A 4)) := h.cell 4 (by decide)
  have h5 : w.cell? ⟨10, 0, none⟩ = some (errAt (A 5)) := h.cell 5 (by decide)
  have h6 : w.cell? ⟨11, 0, none⟩ = some (errAt (A 6)) := h.cell 6 (by decide)
  have h7 : w.cell? ⟨12, 0, none⟩ = some (errAt (A 7)) := h.cell 7 (by decide)
  have h8 : w.cell? ⟨13, 0, none⟩ = some (errAt (A 8)) := h.cell 8 (by decide)
  have h9 : w.cell? ⟨14, 0, none⟩ = some (errAt (A 9)) := h.cell 9 (by decide)
  have h10 : w.cell? ⟨1, 0, none⟩ = some (errAt (A 10)) := h.cell 10 (by decide)
  have h11 : w.cell? ⟨15, 0, none⟩ = some (errAt (A 11)) := h.cell 11 (by decide)
  have h12 : w.cell? ⟨16, 0, none⟩ = some (errAt (A 12)) := h.cell 12 (by decide)
  have h13 : w.cell? ⟨17, 0, none⟩ = some (errAt (A 13)) := h.cell 13 (by decide)
  have h14 : w.cell? ⟨18, 0, none⟩ = some (errAt (A 14)) := h.cell 14 (by decide)
  have h15 : w.cell? ⟨19, 0, none⟩ = some (errAt (A 15)) := h.cell 15 (by decide)
  have h16 : w.cell? ⟨20, 0, none⟩ = some (errAt (A 16)) := h.cell 16 (by decide)
  have h17 : w.cell? ⟨5, 0, none⟩ = some (errAt (A 17)) := h.cell 17 (by decide)
  have h18 : w.cell? ⟨6, 0, none⟩ = some (errAt (A 18)) := h.cell 18 (by decide)
  have h19 : w.cell? ⟨21, 0, none⟩ = some (errAt (A 19)) := h.cell 19 (by decide)
  have h20 : w.cell? ⟨22, 0, none⟩ = some (errAt (A 20)) := h.cell 20 (by decide)
  clear h
  go_enter Tryz.func74, Tryz.ntmps74
  go_wp2
  go_ret
  exact ⟨rfl, rfl⟩

theorem info_ptr : (Tryz.prog.info? 149).map (fun i => i.comparable) = some true := by kernel_rfl
theorem info_str : (Tryz.prog.info? 151).map (fun i => decide (i.size = 0)) = some false := by kernel_rfl
theorem eql_same (w : World) (a : Addr) : (binOp .eql 29 (errAt a) (errAt a)).run Tryz.prog w = .ok (.bool true) w := by
  obtain ⟨i, hi, hc⟩ := Option.map_eq_some_iff.1 info_ptr
  obtain ⟨j, hj, _⟩ := Option.map_eq_some_iff.1 info_str
  exact run_eql_iface_ptr_same w a Tryz.underlying29 Tryz.underlying149 hi hc hj
theorem eql_other (w : World) (a b : Addr) (hne : a ≠ b) (ha : ∃ cs t, w.heap[a.block]? = some (.cells cs t (0, 0))) (hb : ∃ cs t, w.heap[b.block]? = some (.cells cs t (0, 0))) :
    (binOp .eql 29 (errAt a) (errAt b)).run Tryz.prog w = .ok (.bool false) w := by
  obtain ⟨i, hi, hc⟩ := Option.map_eq_some_iff.1 info_ptr
  obtain ⟨j, hj, hs⟩ := Option.map_eq_some_iff.1 info_str
  obtain ⟨ca, ta, ha⟩ := ha
  obtain ⟨cb, tb, hb⟩ := hb
  exact run_eql_iface_ptr_other w Tryz.underlying29 Tryz.underlying149 hi hc hj (by simpa using hs) hne ha hb

theorem alike_same (a : Addr) (w : World) : Calls Tryz.prog 75 #[errAt a, errAt a] w fun e w' => e = .returned (.bool true) ∧ w = w' := by
  have hk := eql_same
  go_enter Tryz.func75, Tryz.ntmps75
  go_wp2
  go_ret
  exact ⟨rfl, rfl⟩
theorem alike_other (a b : Addr) (w : World) (hne : a ≠ b) (ha : ∃ cs t, w.heap[a.block]? = some (.cells cs t (0, 0))) (hb : ∃ cs t, w.heap[b.block]? = some (.cells cs t (0, 0))) :
    Calls Tryz.prog 75 #[errAt a, errAt b] w fun e w' => e = .returned (.bool false) ∧ w = w' := by
  have hk := eql_other w a b hne ha hb
  clear hne ha hb
  go_enter Tryz.func75, Tryz.ntmps75
  go_wp2
  go_ret
  exact ⟨rfl, rfl⟩

/-- the number of a sentinel. -/
theorem sentinel_any (A : Nat → Addr) (i : Nat) (w : World) (h : Sents w A) (hi : i < 21) :
    Calls Tryz.prog 63 #[errAt (A i)] w fun e w' => e = .returned (.int .i64 (101 + (i : Int))) ∧ w.alloc (.cells (sentCells A) 29) = w' := by
  have h1 : Sents (w.alloc (.cells (sentCells A) 29)) A := h.same fun k hk => heap_alloc_old w _ hk
  have hs := hidden (sentinels_any A w h)
  have hcell : ∀ k, k < 21 → (w.alloc (.cells (sentCells A) 29)).cell? ⟨w.heap.size, 0 + k, none⟩ = some (errAt (A k)) := fun k hk => by
    rw [World.cell?_alloc_at _ _ _ _ rfl, Nat.zero_add]; exact sentCells_at A k hk
  have hcell' := hidden hcell
  have h1' := hidden h1
  clear h h1 hcell
  generalize hw : w.alloc (.cells (sentCells A) 29) = w1 at hs hcell' h1' ⊢
  clear hw
  generalize w.heap.size = n1 at hs hcell'
  go_enter Tryz.func63, Tryz.ntmps63
  go_wp2_with fail
  refine hs.out.mono ?_
  rintro e w' ⟨rfl, rfl⟩
  go_wp2_with fail
  go_loop [4] (fun t => ∃ k : Nat, t = .int .i64 (k : Int) ∧ k ≤ i) (fun t => i - (intOf t).toNat)
  case atStart => exact ⟨0, rfl, Nat.zero_le _⟩
  case round =>
    obtain ⟨k, rfl, hk⟩ := hrel
    have hc := hcell'.out k (by omega)
    rw [Nat.zero_add] at hc
    have hk21 : (k : Int) < 21 := by omega
    by_cases hki : k = i
    · have hal := hidden (alike_same (A i) w1)
      subst hki
      go_wp2_with fail
      refine hal.out.mono ?_
      rintro e w' ⟨rfl, rfl⟩
      go_wp2
      go_ret
      exact ⟨rfl, rfl⟩
    · have hne : A i ≠ A k := fun e => hki (h1'.out.apart i k hi (by omega) e).symm
      have hal := hidden (alike_other (A i) (A k) w1 hne (h1'.out.block i hi) (h1'.out.block k (by omega)))
      have hlt : k < i := by omega
      clear hki hne
      go_wp2_with fail
      refine hal.out.mono ?_
      rintro e w' ⟨rfl, rfl⟩
      go_wp2
      go_round
      case rel => exact ⟨k + 1, by go_num, hlt⟩
      case measure => simp [intOf]; omega

/-- an error with a place around it, in memory. -/
def AtIn (w : World) (ga : Nat) (p : Int) (a : Addr) : Prop := w.heap[ga]? = some (.cells #[.int .i64 p, errAt a] 76 (0, 0))

theorem assert_at (a : Addr) (w : World) : (Instr.typeAssert (.iface 74 (.pointer (some a))) 29 74 true).run Tryz.prog w = .ok (.tuple #[.pointer (some a), .bool true]) w := by kernel_rfl
theorem assert_no (a : Addr) (w : World) : (Instr.typeAssert (.iface 149 (.pointer (some a))) 29 74 true).run Tryz.prog w = .ok (.tuple #[.pointer none, .bool false]) w := by kernel_rfl

/-- what was there, and the block of the result, is as it was. -/
def KeptF (w w' : World) : Prop := Below (w.heap.size + 1) (w.alloc (.cells #[.int .i64 0, .bool false, .int .i64 0] 41)) w'

theorem kept1 (w : World) : KeptF w (w.alloc (.cells #[.int .i64 0, .bool false, .int .i64 0] 41)).drew := (Below.refl _ _).drew
theorem kept2 (w : World) (o : Obj) : KeptF w ((w.alloc (.cells #[.int .i64 0, .bool false, .int .i64 0] 41)).alloc o).drew := ((Below.refl _ _).alloc (by simp) o).drew
theorem kept3 (w : World) (o : Obj) {w' : World} (h : Below ((w.alloc (.cells #[.int .i64 0, .bool false, .int .i64 0] 41)).alloc o).drew.heap.size ((w.alloc (.cells #[.int .i64 0, .bool false, .int .i64 0] 41)).alloc o).drew w') : KeptF w w' :=
  (kept2 w o).trans (h.mono (by show _ ≤ ((w.alloc _).alloc o).heap.size; simp))

theorem fs_of {w w' : World} {ga : Nat} {p : Int} {e : Value} (hlt : ga < w.heap.size) (hc0 : w.cell? ⟨ga, 0, none⟩ = some (.int .i64 p)) (hc1 : w.cell? ⟨ga, 1, none⟩ = some e) (h : KeptF w w') :
    w'.cell? ⟨ga, 0, none⟩ = some (.int .i64 p) ∧ w'.cell? ⟨ga, 1, none⟩ = some e ∧ w'.cell? ⟨w.heap.size, 0, none⟩ = some (.int .i64 0) ∧ w'.cell? ⟨w.heap.size, 1, none⟩ = some (.bool false) ∧ w'.cell? ⟨w.heap.size, 2, none⟩ = some (.int .i64 0) ∧
      w'.frozen? ⟨w.heap.size, 0, none⟩ = false ∧ w'.frozen? ⟨w.heap.size, 1, none⟩ = false ∧ w'.frozen? ⟨w.heap.size, 2, none⟩ = false ∧ KeptF w w' := by
  have e1 : w'.heap[ga]? = w.heap[ga]? := by rw [h.block ga (by omega), heap_alloc_old w _ hlt]
  have e2 : w'.heap[w.heap.size]? = some (.cells #[.int .i64 0, .bool false, .int .i64 0] 41 (0, 0)) := by rw [h.block _ (Nat.lt_succ_self _)]; exact heap_alloc_new w _
  refine ⟨?_, ?_, ?_, ?_, ?_, ?_, ?_, ?_, h⟩
  · rw [World.cell?_of_block (w := w) e1]; exact hc0
  · rw [World.cell?_of_block (w := w) e1]; exact hc1
  all_goals simp [World.cell?, World.frozen?, e2]

theorem s_of {w w' : World} {ga : Nat} {p : Int} {e : Value} (hlt : ga < w.heap.size) (hc0 : w.cell? ⟨ga, 0, none⟩ = some (.int .i64 p)) (hc1 : w.cell? ⟨ga, 1, none⟩ = some e) (h : Below w.heap.size w w') :
    w'.cell? ⟨ga, 0, none⟩ = some (.int .i64 p) ∧ w'.cell? ⟨ga, 1, none⟩ = some e ∧ Below w.heap.size w w' :=
  ⟨by rw [World.cell?_of_block (w := w) (h.block ga hlt)]; exact hc0, by rw [World.cell?_of_block (w := w) (h.block ga hlt)]; exact hc1, h⟩
theorem kept_below {w w' : World} (h : KeptF w w') : Below w.heap.size w w' := ((Below.refl _ w).alloc (Nat.le_refl _) _).trans (h.mono (Nat.le_succ _))
theorem below_three {w w' : World} (h : Below w.heap.size w w') (x y z : Value) : Below w.heap.size w (((w'.setCell ⟨w.heap.size, 0, none⟩ x).setCell ⟨w.heap.size, 1, none⟩ y).setCell ⟨w.heap.size, 2, none⟩ z) :=
  ((h.setCell (Nat.le_refl _) x).setCell (Nat.le_refl _) y).setCell (Nat.le_refl _) z

set_option maxHeartbeats 800000 in
theorem fault_at (A : Nat → Addr) (i ga : Nat) (p : Int) (w : World) (h : Sents w A) (hi : i < 21) (hg : AtIn w ga p (A i)) :
    Calls Tryz.prog 50 #[.iface 74 (.pointer (some ⟨ga, 0, none⟩))] w fun e w' => e = .returned (faultV (101 + (i : Int)) true p) ∧ Below w.heap.size w w' := by
  have hlt : ga < w.heap.size := (Array.getElem?_eq_some_iff.1 (show _ = _ from hg)).1
  have hc0 : w.cell? ⟨ga, 0, none⟩ = some (.int .i64 p) := by simp [World.cell?, show _ = _ from hg]
  have hc1 : w.cell? ⟨ga, 1, none⟩ = some (errAt (A i)) := by simp [World.cell?, show _ = _ from hg]
  have ka := assert_at
  have hs1 : Sents (w.alloc (.cells #[.int .i64 0, .bool false, .int .i64 0] 41)).drew A := h.same fun k hk => heap_alloc_old w _ hk
  have hs1' := hidden hs1
  clear h hg hs1
  go_enter Tryz.func50, Tryz.ntmps50
  go_wp2_with fail
  go_region_held3 (fun w' => w'.cell? ⟨ga, 0, none⟩ = some (.int .i64 p) ∧ w'.cell? ⟨ga, 1, none⟩ = some (errAt (A i)) ∧ Below w.heap.size w w')
    ((first | exact s_of hlt hc0 hc1 (kept_below (kept1 w)) | exact s_of hlt hc0 hc1 (kept_below (kept2 w _)) | exact s_of hlt hc0 hc1 (kept_below (kept3 w _ (by assumption))) | exact s_of hlt hc0 hc1 (below_three (kept_below (kept3 w _ (by assumption))) _ _ _)))
    (first | (go_at_call 63; refine (sentinel_any A i _ hs1'.out hi).mono ?_; rintro e w' ⟨rfl, rfl⟩) | (go_at_call 61; refine (fault_placed _ _ _ ?_).mono ?_; (rw [beq_eq_false_iff_ne]; omega); rintro e w' ⟨rfl, hbp⟩; obtain ⟨_, _, q0, q1, q2, q3, q4, q5, _⟩ := fs_of hlt hc0 hc1 (kept3 w _ hbp)))
  go_wp2
  exact bodyPost_ret (v := faultV (101 + (i : Int)) true p) (by simp [results, Tryz.results50, go_sem, q0, q1, q2]) rfl ⟨rfl, by rename_i hh; exact hh.2.2⟩

theorem fault_nil (w : World) : Calls Tryz.prog 50 #[.nilIface] w fun e w' => e = .returned (faultV 0 false 0) ∧ Below w.heap.size w w' := by
  go_enter Tryz.func50, Tryz.ntmps50
  go_wp2_with fail
  refine (fault_none _).mono ?_
  rintro e w1 ⟨rfl, hb⟩
  have hb' := ((Below.refl w.heap.size w).alloc (Nat.le_refl _) (.cells #[.int .i64 0, .bool false, .int .i64 0] 41)).trans (hb.mono (by simp))
  have e2 : w1.heap[w.heap.size]? = some (.cells #[.int .i64 0, .bool false, .int .i64 0] 41 (0, 0)) := by rw [hb.block _ (by simp)]; exact heap_alloc_new w _
  have q0 : w1.cell? ⟨w.heap.size, 0, none⟩ = some (.int .i64 0) := by simp [World.cell?, e2]
  have q1 : w1.cell? ⟨w.heap.size, 1, none⟩ = some (.bool false) := by simp [World.cell?, e2]
  have q2 : w1.cell? ⟨w.heap.size, 2, none⟩ = some (.int .i64 0) := by simp [World.cell?, e2]
  have q3 : ∀ o, w1.frozen? ⟨w.heap.size, o, none⟩ = false := fun o => by simp [World.frozen?, e2]
  have hb2 := hidden (below_three hb')
  clear hb hb' e2
  go_wp2
  exact bodyPost_ret (v := faultV 0 false 0) (by simp [results, Tryz.results50, go_sem, q0, q1, q2]) rfl ⟨rfl, hb2.out _ _ _⟩

/-- a bare sentinel. -/
theorem fault_sent (A : Nat → Addr) (i : Nat) (w : World) (h : Sents w A) (hi : i < 21) : Calls Tryz.prog 50 #[errAt (A i)] w fun e w' => e = .returned (faultV (101 + (i : Int)) false 0) ∧ Below w.heap.size w w' := by
  have ka := assert_no
  have hs1 := hidden (show Sents (w.alloc (.cells #[.int .i64 0, .bool false, .int .i64 0] 41)) A from h.same fun k hk => heap_alloc_old w _ hk)
  clear h
  go_enter Tryz.func50, Tryz.ntmps50
  go_wp2_with fail
  refine (sentinel_any A i _ hs1.out hi).mono ?_
  rintro e w' ⟨rfl, rfl⟩
  go_wp2_with fail
  refine (fault_bare _ _).mono ?_
  rintro e w1 ⟨rfl, hb⟩
  have hb' := ((((Below.refl w.heap.size w).alloc (Nat.le_refl _) (.cells #[.int .i64 0, .bool false, .int .i64 0] 41))).alloc (by simp) (.cells (sentCells A) 29)).trans (hb.mono (by simp; omega))
  have e2 : w1.heap[w.heap.size]? = some (.cells #[.int .i64 0, .bool false, .int .i64 0] 41 (0, 0)) := by
    rw [hb.block _ (by simp; omega), heap_alloc_old _ _ (by simp)]; exact heap_alloc_new w _
  have q0 : w1.cell? ⟨w.heap.size, 0, none⟩ = some (.int .i64 0) := by simp [World.cell?, e2]
  have q1 : w1.cell? ⟨w.heap.size, 1, none⟩ = some (.bool false) := by simp [World.cell?, e2]
  have q2 : w1.cell? ⟨w.heap.size, 2, none⟩ = some (.int .i64 0) := by simp [World.cell?, e2]
  have q3 : ∀ o, w1.frozen? ⟨w.heap.size, o, none⟩ = false := fun o => by simp [World.frozen?, e2]
  have hb2 := hidden (below_three hb')
  clear hb hb' e2
  go_wp2
  exact bodyPost_ret (v := faultV (101 + (i : Int)) false 0) (by simp [results, Tryz.results50, go_sem, q0, q1, q2]) rfl ⟨rfl, hb2.out _ _ _⟩

/-- two faults held against each other. -/
theorem sameFault_any (c d : Int) (pl ql : Bool) (p q : Int) (w : World) : Calls Tryz.prog 49 #[faultV c pl p, faultV d ql q] w fun e w' =>
    e = .returned (.bool (c == d && pl == ql && p == q)) ∧ Below w.heap.size w w' := by
  have hb := hidden (((Below.refl w.heap.size w).alloc (Nat.le_refl _) (.cells #[.int .i64 c, .bool pl, .int .i64 p] 41)).alloc (by simp) (.cells #[.int .i64 d, .bool ql, .int .i64 q] 41))
  cases h1 : c == d <;> cases h2 : pl == ql <;> cases h3 : p == q
  all_goals
    go_enter Tryz.func49, Tryz.ntmps49
    go_wp2
    go_ret
    exact ⟨rfl, hb.out⟩
end Go.Proofs.YtongpgnnhpbcpaaGreatDoor
namespace Go.Proofs.YtongpgnnhpbcpaaGreatDoor
open Go.RowKit

abbrev fcells (d : Int) (ql : Bool) (q : Int) : Obj := .cells #[.int .i64 d, .bool ql, .int .i64 q] 41
theorem three_of {w w' : World} {d q : Int} {ql : Bool} (h : Below (w.heap.size + 1) (w.alloc (fcells d ql q)) w') :
    w'.cell? ⟨w.heap.size, 0, none⟩ = some (.int .i64 d) ∧ w'.cell? ⟨w.heap.size, 1, none⟩ = some (.bool ql) ∧ w'.cell? ⟨w.heap.size, 2, none⟩ = some (.int .i64 q) ∧ Below (w.heap.size + 1) (w.alloc (fcells d ql q)) w' := by
  have e2 : w'.heap[w.heap.size]? = some (.cells #[.int .i64 d, .bool ql, .int .i64 q] 41 (0, 0)) := by rw [h.block _ (Nat.lt_succ_self _)]; exact heap_alloc_new w _
  refine ⟨?_, ?_, ?_, h⟩ <;> simp [World.cell?, e2]

theorem three_next {w w' : World} {d q : Int} {ql : Bool} (h : Below (w.alloc (fcells d ql q)).drew.heap.size (w.alloc (fcells d ql q)).drew w') : Below (w.heap.size + 1) (w.alloc (fcells d ql q)) w' :=
  ((Below.refl (w.heap.size + 1) (w.alloc (fcells d ql q))).drew).trans (h.mono (by show _ ≤ (w.alloc _).heap.size; simp))
theorem three_then {w w1 w' : World} {d q : Int} {ql : Bool} {A B C : Prop} (hs : A ∧ B ∧ C ∧ Below (w.heap.size + 1) (w.alloc (fcells d ql q)) w1) (h : Below w1.heap.size w1 w') : Below (w.heap.size + 1) (w.alloc (fcells d ql q)) w' :=
  hs.2.2.2.trans (h.mono (by have := hs.2.2.2.size; simpa using this))
theorem three_end {w w' : World} {d q : Int} {ql : Bool} {A B C : Prop} (hs : A ∧ B ∧ C ∧ Below (w.heap.size + 1) (w.alloc (fcells d ql q)) w') : Below w.heap.size w w' :=
  ((Below.refl w.heap.size w).alloc (Nat.le_refl _) _).trans (hs.2.2.2.mono (Nat.le_succ _))

/-- Same: by what Fault says of the error. -/
def FaultIs (w : World) (ev : Value) (c : Int) (pl : Bool) (p : Int) : Prop :=
  ∀ w1, Below w.heap.size w w1 → Calls Tryz.prog 50 #[ev] w1 fun e w' => e = .returned (faultV c pl p) ∧ Below w1.heap.size w1 w'

theorem same_any (ev : Value) (c d p q : Int) (pl ql : Bool) (w : World) (hf : FaultIs w ev c pl p) :
    Calls Tryz.prog 19 #[ev, faultV d ql q] w fun e w' => e = .returned (.bool (c == d && pl == ql && p == q)) ∧ Below w.heap.size w w' := by
  have h0 : Below (w.heap.size + 1) (w.alloc (fcells d ql q)) (w.alloc (fcells d ql q)).drew := (Below.refl _ _).drew
  have h00 : Below w.heap.size w (w.alloc (fcells d ql q)).drew := ((Below.refl w.heap.size w).alloc (Nat.le_refl _) _).drew
  have hf' := hidden (hf _ h00)
  clear hf
  go_enter Tryz.func19, Tryz.ntmps19
  go_wp2_with fail
  go_region_held3 (fun w' => w'.cell? ⟨w.heap.size, 0, none⟩ = some (.int .i64 d) ∧ w'.cell? ⟨w.heap.size, 1, none⟩ = some (.bool ql) ∧ w'.cell? ⟨w.heap.size, 2, none⟩ = some (.int .i64 q) ∧ Below (w.heap.size + 1) (w.alloc (fcells d ql q)) w')
    ((first | exact three_of h0 | exact three_of (three_next hb1) | exact three_of (three_then (by assumption) (by assumption))))
    (first | (go_at_call 50; refine hf'.out.mono ?_; rintro e w' ⟨rfl, hb1⟩) | (go_at_call 49; refine (sameFault_any _ _ _ _ _ _ _).mono ?_; rintro e w' ⟨rfl, hb2⟩))
  go_wp2
  go_ret
  exact ⟨rfl, by rename_i hh; exact three_end hh⟩

theorem faultIs_at (A : Nat → Addr) (i ga : Nat) (p : Int) (w : World) (h : Sents w A) (hi : i < 21) (hg : AtIn w ga p (A i)) : FaultIs w (.iface 74 (.pointer (some ⟨ga, 0, none⟩))) (101 + (i : Int)) true p :=
  fun w1 hb => fault_at A i ga p w1 (h.below hb (Nat.le_refl _)) hi (by unfold AtIn; rw [hb.block ga (Array.getElem?_eq_some_iff.1 (show _ = _ from hg)).1]; exact hg)
theorem faultIs_sent (A : Nat → Addr) (i : Nat) (w : World) (h : Sents w A) (hi : i < 21) : FaultIs w (errAt (A i)) (101 + (i : Int)) false 0 :=
  fun w1 hb => fault_sent A i w1 (h.below hb (Nat.le_refl _)) hi
theorem faultIs_nil (w : World) : FaultIs w .nilIface 0 false 0 := fun w1 _ => fault_nil w1
end Go.Proofs.YtongpgnnhpbcpaaGreatDoor
namespace Go.Proofs.YtongpgnnhpbcpaaGreatDoor
open Go.RowKit

theorem take_next (l : List Int) (k : Nat) (h : k < l.length) : l.take (k + 1) = l.take k ++ [l.getD k 0] := by
  rw [List.take_succ_eq_append_getElem h, List.getD_eq_getElem?_getD, List.getElem?_eq_getElem h]; rfl

def SameRel (xs ys : List Int) (w : World) (i : Value) (wr : World) : Prop :=
  ∃ k : Nat, i = .int .i64 (k : Int) ∧ k ≤ xs.length ∧ xs.take k = ys.take k ∧ ∃ m, wr = w.drewN m

set_option maxHeartbeats 1600000 in
/-- SameBytes: are the lists the same? -/
theorem sameBytes_any (v u : Value) (xs ys : List Int) (w : World) (h : Reads .u8 w v xs) (h2 : Reads .u8 w u ys) (hx : xs.length ≤ 1000000000) :
    Calls Tryz.prog 11 #[v, u] w fun e w' => e = .returned (.bool (decide (xs = ys))) ∧ ∃ m, w' = w.drewN m := by
  have hr := hidden h
  have hr2 := hidden h2
  obtain ⟨a, n, c, rfl, en, hnc, hcm, hn, _⟩ := h
  obtain ⟨a2, n2, c2, rfl, en2, hnc2, hcm2, hn2, _⟩ := h2
  subst en
  subst en2
  clear hn hn2
  by_cases hlen : xs.length = ys.length
  · have hne : ((xs.length : Int) != (ys.length : Int)) = false := by rw [hlen]; simp
    have hlen' := hidden hlen
    clear hlen
    go_enter Tryz.func11, Tryz.ntmps11
    go_wp2_with fail
    go_loopw [5] (fun i wr => SameRel xs ys w i wr) (fun i _ => xs.length - (RowKit.intOf i).toNat)
    case atStart => exact ⟨0, rfl, Nat.zero_le _, by simp, 0, rfl⟩
    case round =>
      obtain ⟨k, rfl, hk, htk, m, rfl⟩ := hrel
      have htk' := hidden htk
      clear htk
      by_cases hlt : k < xs.length
      · have hlt2 : k < ys.length := by have := hlen'.out; omega
        obtain ⟨bl, ol, rfl, hc⟩ := hr.out.cell k hlt
        obtain ⟨bl2, ol2, rfl, hc2⟩ := hr2.out.cell k hlt2
        have hlt3 : (k : Int) < (xs.length : Int) := by omega
        have hlt4 : (k : Int) < (ys.length : Int) := by omega
        have ht1 := hidden (take_next xs k hlt)
        have ht2 := hidden (take_next ys k hlt2)
        have hx1 := hidden (show xs[k]? = some (xs.getD k 0) by rw [List.getD_eq_getElem?_getD, List.getElem?_eq_getElem hlt]; rfl)
        have hx2 := hidden (show ys[k]? = some (ys.getD k 0) by rw [List.getD_eq_getElem?_getD, List.getElem?_eq_getElem hlt2]; rfl)
        generalize xs.getD k 0 = x at hc ht1 hx1
        generalize ys.getD k 0 = y at hc2 ht2 hx2
        by_cases hxy : x = y
        · subst hxy
          have hbb : (x == x) = true := beq_self_eq_true x
          go_wp2_with fail
          go_quiet (fail)
          go_wp2
          go_roundw
          case rel => exact ⟨k + 1, by go_num, hlt, by rw [ht1.out, ht2.out, htk'.out], _, rfl⟩
          case measure => simp [RowKit.intOf]; omega
        · have hbb : (x == y) = false := by rw [beq_eq_false_iff_ne]; exact hxy
          have hfin := hidden (show decide (xs = ys) = false by
            rw [decide_eq_false_iff_not]
            intro e
            rw [e] at hx1
            have := hx1.out.symm.trans hx2.out
            exact hxy (Option.some.inj this))
          clear hxy
          go_wp2_with fail
          go_quiet (fail)
          go_wp2
          go_ret
          exact ⟨by rw [hfin.out]; rfl, _, rfl⟩
      · have hfin := hidden (show decide (xs = ys) = true by
          rw [decide_eq_true_iff]
          have e1 : xs.take k = xs := List.take_of_length_le (by omega)
          have e2 : ys.take k = ys := List.take_of_length_le (by have := hlen'.out; omega)
          rw [← e1, ← e2]; exact htk'.out)
        go_wp2
        go_ret
        exact ⟨by rw [hfin.out]; rfl, m, rfl⟩
  · have hne : ((xs.length : Int) != (ys.length : Int)) = true := by rw [bne_iff_ne]; omega
    have hfin := hidden (show decide (xs = ys) = false by
      rw [decide_eq_false_iff_not]
      intro e
      exact hlen (by rw [e]))
    clear hlen
    go_enter Tryz.func11, Tryz.ntmps11
    go_wp2
    go_ret
    exact ⟨by rw [hfin.out]; rfl, 0, rfl⟩

end Go.Proofs.YtongpgnnhpbcpaaGreatDoor
namespace Go.Proofs.YtongpgnnhpbcpaaGreatDoor
open Go.RowKit

theorem take_snocI (l : List Int) (k : Nat) (h : k < l.length) : l.take (k + 1) = l.take k ++ [l.getD k 0] := by
  rw [List.take_succ_eq_append_getElem h, List.getD_eq_getElem?_getD, List.getElem?_eq_getElem h]; rfl
def SameIRel (xs ys : List Int) (w : World) (i : Value) (wr : World) : Prop :=
  ∃ k : Nat, i = .int .i64 (k : Int) ∧ k ≤ xs.length ∧ xs.take k = ys.take k ∧ ∃ m, wr = w.drewN m
end Go.Proofs.YtongpgnnhpbcpaaGreatDoor
namespace Go.Proofs.YtongpgnnhpbcpaaGreatDoor
open Go.RowKit

/-- the error of a number; 0: none. -/
def errOf (A : Nat → Addr) (c : Int) : Value := if c = 0 then .nilIface else errAt (A (c - 101).toNat)
theorem ret_iv {k : IntKind} {a b : Int} {u v : Value} (h : a = b) (g : u = v) : Ending.returned (.tuple #[.int k a, u]) = .returned (.tuple #[.int k b, v]) := by rw [h, g]
theorem errOf_fine (A : Nat → Addr) : errOf A 0 = .nilIface := rfl
def codeOk (c : Int) : Prop := c = 0 ∨ (101 ≤ c ∧ c ≤ 121)
/-- Some sentinels are there. -/
def ErrsOn (js : List Nat) (w : World) (A : Nat → Addr) : Prop := ∀ i ∈ js, w.cell? ⟨sentG.getD i 0, 0, none⟩ = some (errAt (A i))
theorem ErrsOn.same {js : List Nat} {w w' : World} {A : Nat → Addr} (h : ErrsOn js w A) (hb : ∀ i, i < w.heap.size → w'.heap[i]? = w.heap[i]?) : ErrsOn js w' A := fun i hi => by
  have := h i hi
  rw [World.cell?_of_block (w := w) (hb _ (World.block_lt_of_cell? w _ this))]; exact this
theorem ErrsOn.below {js : List Nat} {w w' : World} {A : Nat → Addr} {B : Nat} (h : ErrsOn js w A) (hb : Below B w w') (hB : w.heap.size ≤ B) : ErrsOn js w' A := h.same fun i hi => hb.block i (by omega)
theorem ErrsOn.drewN {js : List Nat} {w : World} {A : Nat → Addr} (h : ErrsOn js w A) (k : Nat) : ErrsOn js (w.drewN k) A := h.same fun _ _ => rfl
theorem ErrsOn.sub {js ks : List Nat} {w : World} {A : Nat → Addr} (h : ErrsOn js w A) (hs : ∀ i ∈ ks, i ∈ js) : ErrsOn ks w A := fun i hi => h i (hs i hi)
theorem Sents.on {w : World} {A : Nat → Addr} (h : Sents w A) (js : List Nat) (hj : ∀ i ∈ js, i < 21) : ErrsOn js w A := fun i hi => h.cell i (hj i hi)
theorem Sents.drewN {w : World} {A : Nat → Addr} (h : Sents w A) (k : Nat) : Sents (w.drewN k) A := h.same fun _ _ => rfl

theorem faultIs_of (A : Nat → Addr) (c : Int) (w : World) (h : Sents w A) (hc : codeOk c) : FaultIs w (errOf A c) c false 0 := by
  rcases hc with rfl | ⟨h1, h2⟩
  · exact faultIs_nil w
  · unfold errOf
    rw [if_neg (by omega)]
    have := faultIs_sent A (c - 101).toNat w h (by omega)
    rwa [show 101 + ((c - 101).toNat : Int) = c by omega] at this

theorem is_any (A : Nat → Addr) (c d : Int) (w : World) (h : Sents w A) (hc : codeOk c) :
    Calls Tryz.prog 7 #[errOf A c, .int .i64 d] w fun e w' => e = .returned (.bool (c == d)) ∧ Below w.heap.size w w' := by
  have hS := hidden h
  clear h
  have hc' := hidden hc
  clear hc
  generalize hx : errOf A c = x
  replace hx := hidden hx
  go_enter Tryz.func7, Tryz.ntmps7
  go_wp2_with fail
  refine (fault_bare _ _).mono ?_
  rintro e w1 ⟨rfl, hb⟩
  have hb' := hidden hb
  clear hb
  have hf := hidden (faultIs_of A c w1 (hS.out.below hb'.out (Nat.le_refl _)) hc'.out)
  go_wp2_with fail
  rw [← hx.out]
  refine (same_any _ _ _ _ _ _ _ w1 hf.out).mono ?_
  rintro e w2 ⟨rfl, hb2⟩
  have hb2' := hidden (hb'.out.trans (hb2.mono hb'.out.size))
  clear hb2
  go_wp2
  go_ret
  exact ⟨ret_bool (by simp), hb2'.out⟩
end Go.Proofs.YtongpgnnhpbcpaaGreatDoor
namespace Go.Proofs.YtongpgnnhpbcpaaGreatDoor
open Go.RowKit
set_option linter.unusedVariables false

theorem is_self (A : Nat → Addr) (k : Int) (W : World) (h : Sents W A) (hk : codeOk k) : Calls Tryz.prog 7 #[errOf A k, .int .i64 k] W fun e w' => e = .returned (.bool true) ∧ Below W.heap.size W w' :=
  (is_any A k k W h hk).mono fun e w' h => by
    obtain ⟨rfl, hb⟩ := h
    exact ⟨by rw [beq_self_eq_true], hb⟩
end Go.Proofs.YtongpgnnhpbcpaaGreatDoor
namespace Go.Proofs.YtongpgnnhpbcpaaGreatDoor
open Go.RowKit
set_option linter.unusedVariables false

theorem infoI64 : (Tryz.prog.info? 3).map (fun i => (i.zero, i.size, i.bytes)) = some (some (.int .i64 0), 1, 8) := by kernel_rfl
/-- 'append(s, x)' of one element, s of the call's own: as long as it has room at all. -/
theorem wpList_app1w {P : Program} {w : World} {ops : Array Oper} {rest : List Oper} {o : Oper} {a : Act} {Q : Exit → Act → World → Prop} (hgd : o.guard = none) (s x : Operand) (t : TypeId)
    (ho : o.op = .call { callee := .builtin .append, args := #[s, x], argTypes := #[t, t] })
    (e : TypeId) {z : Value} {bytes : Nat} (ht : P.underlying t = some (.slice e)) (hi : (P.info? e).map (fun i => (i.zero, i.size, i.bytes)) = some (some z, 1, bytes)) (hzs : z.cells.size = 1)
    (base : Nat) (v : Value) (n : Nat) (xs : List Value) (hs : a.eval s = v) (hown : w.ownsRow base e 1 v n xs)
    (u : Value) (hx : a.eval x = .slice (some ⟨w.heap.size, 0, none⟩) 1 1) (hone : u.oneCell' = true) (hn : n ≤ 1000000000000000 ∧ (n + 1) * bytes ≤ 140737488355328) (hbase : base ≤ w.heap.size)
    (h : ∀ v' w', w'.ownsRow base e 1 v' (n + 1) (xs ++ [u]) → Below base w w' → wpList P ops Q rest (a.put o.dst v') w') : wpList P ops Q (o :: rest) a (w.alloc (.cells #[u] e)) := by
  obtain ⟨i, hi0, h1, h2, h3⟩ := info_parts hi
  refine wpList_append_own (w.alloc (.cells #[u] e)) hgd s x t ho base e i z 1 bytes ht hi0 h1 h2 h3 hzs (by decide) v n xs hs (hown.alloc _) ⟨w.heap.size, 0, none⟩ 1 1 [u] hx (by simp) (new_cell _ _ _) (by simpa using hone) (by unfold maxLen; omega) hn.2 (by simp; omega) ?_
  intro v' w' h2 h3 _
  exact h v' w' h2 (((Below.refl base w).alloc hbase _).grown h3 (by simp; omega) (fun g hg => (hown.lt g hg).1))
def ivs (l : List Int) : List Value := l.map (Value.int .i64)
theorem ivs_snoc (l : List Int) (x : Int) : ivs (l ++ [x]) = ivs l ++ [.int .i64 x] := by simp [ivs]
def IntsRel (B : Nat) (xs : List Int) (w : World) (v i : Value) (wr : World) : Prop :=
  ∃ k : Nat, i = .int .i64 (k : Int) ∧ k ≤ xs.length ∧ wr.ownsRow B 3 1 v k (ivs (xs.take k)) ∧ Below B w wr
/-- a list of the call's own. -/
def NewInts (xs : List Int) (w : World) (v : Value) (w' : World) : Prop := Reads .i64 w' v xs ∧ (∀ b, v.ownBlock = some b → w.heap.size ≤ b) ∧ Below w.heap.size w w'
theorem newInts_of {xs : List Int} {w w' : World} {v : Value} (h : w'.ownsRow w.heap.size 3 1 v xs.length (ivs xs)) (hb : Below w.heap.size w w') : NewInts xs w v w' := by
  refine ⟨reads_of_own h, fun b hv => ?_, hb⟩
  rcases h.2 with ⟨rfl, _⟩ | ⟨g, cap, cur, rfl, hg, _⟩
  · cases hv
  · cases hv; exact hg
/-- a cell of a row of one's own is written. -/
theorem own_put {w : World} {base : Nat} {v : Value} {l : List Int} {i : Nat} (h : w.ownsRow base 3 1 v l.length (ivs l)) (hi : i < l.length) (x : Int) :
    ∃ g c, v = .slice (some ⟨g, 0, none⟩) l.length c ∧ base ≤ g ∧ g < w.heap.size ∧ w.frozen? ⟨g, i, none⟩ = false ∧ w.cell? ⟨g, i, none⟩ = some (.int .i64 (l.getD i 0)) ∧ (w.setCell ⟨g, i, none⟩ (.int .i64 x)).ownsRow base 3 1 v l.length (ivs (l.set i x)) := by
  obtain ⟨h1, h2⟩ := h
  rcases h2 with ⟨rfl, h0⟩ | ⟨g, cap, cur, rfl, hb, hg, hn, hc, hs, ht⟩
  · omega
  · have hlt := (Array.getElem?_eq_some_iff.1 hg).1
    have hsz : i < cur.size := by
      have : cur.size = cap * 1 := hs
      omega
    have hci : cur[i]? = some (.int .i64 (l.getD i 0)) := by
      have e1 : (cur.toList.take (l.length * 1))[i]? = (ivs l)[i]? := by rw [ht]
      rw [List.getElem?_take, if_pos (by omega)] at e1
      rw [← Array.getElem?_toList, e1, ivs, List.getElem?_map, List.getD_eq_getElem?_getD, List.getElem?_eq_getElem hi]
      rfl
    refine ⟨g, cap, rfl, hb, hlt, by simp [World.frozen?, hg], by rw [cell_of_row _ _ _ _ _ _ hg]; exact hci, ?_⟩
    refine ⟨by simp [ivs], .inr ⟨g, cap, cur.setIfInBounds i (.int .i64 x), rfl, hb, heap_setCell_row hg _, hn, hc, by rw [Array.size_setIfInBounds]; exact hs, ?_⟩⟩
    rw [Array.toList_setIfInBounds, List.take_set, ht]
    simp [ivs]
theorem own_slice18 {w : World} {base : Nat} {e : TypeId} {v : Value} {n : Nat} {xs : List Value} (h : w.ownsRow base e 1 v n xs) : ∃ a c, v = .slice a n c := by
  rcases h.2 with ⟨rfl, rfl⟩ | ⟨g, cap, cur, rfl, _⟩
  · exact ⟨_, _, rfl⟩
  · exact ⟨_, _, rfl⟩
end Go.Proofs.YtongpgnnhpbcpaaGreatDoor
