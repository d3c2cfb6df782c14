/-
  falling; a row of numbers in a block of its own.
-/
import Derived.Test.YtddoibnagbbndaaDoorShare5
import Derived.Test.YtddoibnagbbndaaDoorShare6
namespace Go.Proofs.YtddoibnagbbndaaDoor
open Go Go.RowKit
set_option linter.unusedVariables false

/-! A row of numbers of 64 bits, a block's own. -/
def Nu23 (T : TypeId) (w : World) (g : Nat) (l : List Int) : Prop := w.heap[g]? = some (.cells (l.map (Value.int .i64)).toArray T (0, 0))
section
variable {T : TypeId} {w w' : World} {g : Nat} {l : List Int}
theorem Nu23.cell (h : Nu23 T w g l) {i : Nat} (hi : i < l.length) : w.cell? ⟨g, i, none⟩ = some (.int .i64 (l.getD i 0)) := by
  rw [cell_of_row _ _ _ _ _ _ h, List.getElem?_toArray, List.getElem?_map, List.getD_eq_getElem?_getD, List.getElem?_eq_getElem hi]
  rfl
theorem Nu23.frozen (h : Nu23 T w g l) (i : Nat) : w.frozen? ⟨g, i, none⟩ = false := by
  have := h
  unfold Nu23 at this
  simp [World.frozen?, this]
theorem Nu23.set (h : Nu23 T w g l) (i : Nat) (x : Int) : Nu23 T (w.setCell ⟨g, i, none⟩ (.int .i64 x)) g (l.set i x) := by
  unfold Nu23
  rw [heap_setCell_row h]
  simp
theorem Nu23.lt (h : Nu23 T w g l) : g < w.heap.size := (Array.getElem?_eq_some_iff.1 h).1
theorem Nu23.below (h : Nu23 T w g l) (hb : Below w.heap.size w w') : Nu23 T w' g l := by
  have hl := h.lt
  unfold Nu23 at h ⊢
  rw [hb.block g (by omega)]
  exact h
theorem Nu23.drew (h : Nu23 T w g l) : Nu23 T w.drew g l := h
theorem Nu23.drewN (h : Nu23 T w g l) (k : Nat) : Nu23 T (w.drewN k) g l := h
theorem Nu23.reads (h : Nu23 T w g l) {n : Nat} (hn : l.length = n) (hm : n ≤ 1000000) : Reads .i64 w (.slice (some ⟨g, 0, none⟩) n n) l := reads_block h hn hm
theorem Nu23.new (T : TypeId) (w : World) (n : Nat) : Nu23 T (w.alloc (.cells (Array.replicate n (.int .i64 0)) T)) w.heap.size (List.replicate n 0) := by
  unfold Nu23
  rw [heap_alloc_new w _]
  simp
end
theorem mk_ints23 (n : Nat) (hn : n ≤ 1000000) (W : World) : (Instr.makeSlice 46 (.int .i64 n) (.int .i64 n)).run Tryd.prog W = .ok (.slice (some ⟨W.heap.size, 0, none⟩) n n) (W.alloc (.cells (Array.replicate n (.int .i64 0)) 3)) := by
  obtain ⟨i0, hi, hz0, hz1, hz2⟩ := info_parts (show (Tryd.prog.info? 3).map (fun i => (i.zero, i.size, i.bytes)) = some (some (.int .i64 0), 1, 8) by kernel_rfl)
  have := run_make (P := Tryd.prog) W 46 3 i0 _ Tryd.underlying46 hi hz0 .i64 .i64 n n (by omega) (by omega) (by rw [hz2]; omega) (by omega)
  rw [this, Int.toNat_natCast, hz1, Nat.mul_one]
  have e : madeCells (Value.int .i64 0).cells n = Array.replicate n (.int .i64 0) := by
    apply Array.ext'
    show (madeCells #[Value.int .i64 0] n).toList = _
    rw [toList_madeCells_one]
    simp
  rw [e]
theorem mk_longs23 (n : Nat) (hn : n ≤ 1000000) (W : World) : (Instr.makeSlice 22 (.int .i64 n) (.int .i64 n)).run Tryd.prog W = .ok (.slice (some ⟨W.heap.size, 0, none⟩) n n) (W.alloc (.cells (Array.replicate n (.int .i64 0)) 2)) := by
  obtain ⟨i0, hi, hz0, hz1, hz2⟩ := info_parts (show (Tryd.prog.info? 2).map (fun i => (i.zero, i.size, i.bytes)) = some (some (.int .i64 0), 1, 8) by kernel_rfl)
  have := run_make (P := Tryd.prog) W 22 2 i0 _ Tryd.underlying22 hi hz0 .i64 .i64 n n (by omega) (by omega) (by rw [hz2]; omega) (by omega)
  rw [this, Int.toNat_natCast, hz1, Nat.mul_one]
  have e : madeCells (Value.int .i64 0).cells n = Array.replicate n (.int .i64 0) := by
    apply Array.ext'
    show (madeCells #[Value.int .i64 0] n).toList = _
    rw [toList_madeCells_one]
    simp
  rw [e]

/-! falling. -/
theorem InR.put {w0 : World} {g c n : Nat} {w : World} {f : Nat → Nat} (h : InR w0 g c n w f) (i v : Nat) : InR w0 g c n (w.setCell ⟨g, i, none⟩ (.int .i64 (v : Int))) (fun x => if x = i then v else f x) := by
  refine ⟨?_, h.low.setCell (p := ⟨g, i, none⟩) h.above _⟩
  rw [← intF_set]
  exact set_row23 (intF_len f n) h.own i _
theorem InR.new (w0 : World) (n : Nat) (hn : n ≤ 1000000) : InR w0 w0.heap.size n n (w0.alloc (.cells (Array.replicate n (.int .i64 0)) inT23)) (fun x => if x < 0 then x else 0) := by
  refine ⟨⟨by rw [List.length_map, intF_len, Nat.mul_one], .inr ⟨w0.heap.size, n, _, rfl, Nat.le_refl _, heap_alloc_new w0 _, Nat.le_refl _, by unfold maxLen; omega, by simp, ?_⟩⟩, (Below.refl _ w0).alloc (Nat.le_refl _) _⟩
  refine List.ext_getElem (by simp [intF]) fun k h1 h2 => ?_
  simp [intF]
/-- what falling leaves: the places in order, in a row of the call's own. -/
def FaAt23 (rs : List Int) (w : World) (e : Ending) (w' : World) : Prop := ∃ (g : Nat) (f : Nat → Nat), e = .returned (.slice (some ⟨g, 0, none⟩) rs.length rs.length) ∧ w.heap.size ≤ g ∧ (∀ i, i < rs.length → w'.cell? ⟨g, i, none⟩ = some (.int .i64 (f i : Int))) ∧ (∀ x, x < rs.length → f x < rs.length) ∧ SoR (rsF rs) f 0 rs.length ∧ Below w.heap.size w w'
def FaRel23 (w0 : World) (g n : Nat) (i : Value) (w : World) : Prop := ∃ k : Nat, k ≤ n ∧ i = .int .i64 (k : Int) ∧ InR w0 g n n w (fun x => if x < k then x else 0)
set_option maxRecDepth 100000 in
set_option maxHeartbeats 6400000 in
theorem falling_any23 (v : Value) (rs : List Int) (w : World) (hr : Reads .i64 w v rs) (h1 : 0 < rs.length) (hn : rs.length < 40) :
    Calls Tryd.prog 18 #[v] w (FaAt23 rs w) := by
  have hmf : ∀ (fn : Fn) (first cap : Array Value) (w : World), (Instr.makeFunc fn first cap).run Tryd.prog w = .ok (.func fn first cap) w := fun _ _ _ _ => rfl
  obtain ⟨a, c, rfl⟩ := reads_slice hr
  have hb0 : Below w.heap.size w (w.alloc (.cells #[.slice a rs.length c] 22)) := (Below.refl _ w).alloc (Nat.le_refl _) _
  have hg : (w.alloc (.cells #[.slice a rs.length c] 22)).cell? ⟨w.heap.size, 0, none⟩ = some (.slice a rs.length c) := by rw [cell_of_row _ _ _ _ _ _ (heap_alloc_new w (.cells #[.slice a rs.length c] 22))]; rfl
  have hRs : RsIn (w.alloc (.cells #[.slice a rs.length c] 22)) w.heap.size rs := ⟨_, hg, hr.below hb0 (Nat.le_refl _)⟩
  have hC := cmp_in23 hRs rfl
  have hsz : (w.alloc (.cells #[.slice a rs.length c] 22)).heap.size = w.heap.size + 1 := by simp
  have hst := InR.new (w.alloc (.cells #[.slice a rs.length c] 22)) rs.length (by omega)
  rw [hsz] at hst
  have hS := hidden (fun (W : World) (hW : InR (w.alloc (.cells #[.slice a rs.length c] 22)) (w.heap.size + 1) rs.length rs.length W id) => sortStable_any23 rs w.heap.size rs.length (w.heap.size + 1) rs.length _ W hC h1 hn hW)
  have hmk := mk_ints23 rs.length (by omega)
  replace hst := hidden hst
  replace hsz := hidden hsz
  replace hb0 := hidden hb0
  have hnI : (rs.length : Int) < 40 := by omega
  unfold FaAt23
  unfold SoAt23 at hS
  clear hr hRs hC
  go_enter Tryd.func18, Tryd.ntmps18
  go_wp2_with fail
  go_loopw [10] (fun i wr => FaRel23 (w.alloc (.cells #[.slice a rs.length c] 22)) (w.heap.size + 1) rs.length i wr) (fun i _ => rs.length - (RowKit.intOf i).toNat)
  case atStart => exact ⟨0, Nat.zero_le _, rfl, hst.out⟩
  case round =>
    clear hst
    obtain ⟨k, hk, rfl, hA⟩ := hrel
    by_cases hlt : k < rs.length
    · have hkI : (k : Int) < (rs.length : Int) := by omega
      have ck := hA.cell hlt
      have fk := hA.frozen k
      have hA2 := hidden ((hA.put k k).same (f' := fun x => if x < k + 1 then x else 0) fun x _ => by
        show (if x = k then k else if x < k then x else 0) = if x < k + 1 then x else 0
        by_cases e : x = k
        · rw [if_pos e, if_pos (by omega)]; exact e.symm
        · rw [if_neg e]
          by_cases e2 : x < k
          · rw [if_pos e2, if_pos (by omega)]
          · rw [if_neg e2, if_neg (by omega)])
      clear hA
      generalize ((if k < k then k else 0 : Nat) : Int) = z at *
      go_wp2_with fail
      try go_wp2
      go_roundw
      case rel => exact ⟨k + 1, hlt, by go_num, hA2.out⟩
      case measure => simp [RowKit.intOf]; omega
    · obtain rfl : k = rs.length := by omega
      have hA2 := hidden (hS.out _ (hA.same (f' := id) fun x hx => by
        show (if x < rs.length then x else 0) = x
        rw [if_pos hx]))
      clear hA hS
      go_wp2_with fail
      refine hA2.out.mono ?_
      rintro e w1 ⟨rfl, f1, hA, hM, hSo⟩
      replace hA := hidden hA
      replace hM := hidden hM
      replace hSo := hidden hSo
      clear hA2
      go_wp2
      go_ret
      exact ⟨_, f1, rfl, by omega, fun i hi => hA.out.cell hi, hM.out.lt (Nat.le_refl _) (fun x q => q), hSo.out, hb0.out.trans (hA.out.low.mono (by rw [hsz.out]; omega))⟩
end Go.Proofs.YtddoibnagbbndaaDoor
