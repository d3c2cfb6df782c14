/-
  Valid; mayTake.
-/
import Derived.Test.YtaojahjgfgmpfaaDoorLots1
namespace Go.Proofs.YtaojahjgfgmpfaaDoor
open Go.RowKit
set_option linter.unusedVariables false

theorem mn_many (L : List Lt) (C : List Int) : (mnB (L.length : Int) = true ∧ ¬ manyOk L C) ∨ (mnB (L.length : Int) = false ∧ mnB (C.length : Int) = true ∧ ¬ manyOk L C) ∨ (mnB (L.length : Int) = false ∧ mnB (C.length : Int) = false ∧ manyOk L C) := by
  simp only [mnB, decide_eq_true_iff, decide_eq_false_iff_not]
  unfold manyOk
  omega
theorem any_wr (m : Nat) (L : List Lt) : L.any (wrB m) = false ↔ ∀ x ∈ L, ltOk m x := by
  rw [List.any_eq_false]
  unfold wrB
  simp
theorem any_wc (C : List Int) : C.any wcB = false ↔ ∀ x ∈ C, capOk x := by
  rw [List.any_eq_false]
  unfold wcB
  simp
theorem parts_ways (L : List Lt) (C : List Int) (n : Int) : (L.any (wrB C.length) = true ∧ ¬ partsOk L C n) ∨ (L.any (wrB C.length) = false ∧ C.any wcB = true ∧ ¬ partsOk L C n) ∨ (L.any (wrB C.length) = false ∧ C.any wcB = false ∧ wcB n = true ∧ ¬ partsOk L C n) ∨ (L.any (wrB C.length) = false ∧ C.any wcB = false ∧ wcB n = false ∧ partsOk L C n) := by
  have h1 := any_wr C.length L
  have h2 := any_wc C
  have h3 : wcB n = false ↔ capOk n := by unfold wcB; simp
  unfold partsOk
  cases a : L.any (wrB C.length) <;> cases b : C.any wcB <;> cases c : wcB n <;> simp_all
set_option maxHeartbeats 1600000 in
theorem hasLots_any (la : Option Addr) (lc : Nat) (L : List Lt) (g : Nat) (ca : Option Addr) (m cc : Nat) (w : World) (hr : Row ltV 4 w (.slice la L.length lc) L) (hl : L.length ≤ 1000000) (hc : w.cell? ⟨g, 1, none⟩ = some (.slice ca m cc)) (hm : m ≤ 8) :
    Calls Tryd.prog 40 #[.slice la L.length lc, .func (.func 37) #[] #[.pointer (some ⟨g, 0, none⟩)]] w fun e w' => e = .returned (.bool (L.any (wrB m))) ∧ Below w.heap.size w w' := by
  have h1 := hidden (indexLots_any la lc L g ca m cc w hr hl hc hm)
  unfold IxAt at h1
  clear hr hc
  generalize L.any (wrB m) = b at *
  generalize L.length = ln at *
  go_enter Tryd.func40, Tryd.ntmps40
  go_wp2_with fail
  (with_reducible refine h1.out.mono ?_)
  rintro e w' ⟨r, rfl, hr, hb⟩
  replace hb := hidden hb
  clear h1
  go_wp2
  go_ret
  exact ⟨rfl, hb.out⟩
set_option maxHeartbeats 1600000 in
theorem hasCaps_any (va : Option Addr) (vc : Nat) (C : List Int) (w : World) (hr : Reads .i64 w (.slice va C.length vc) C) (hl : C.length ≤ 1000000) :
    Calls Tryd.prog 41 #[.slice va C.length vc, .func (.func 39) #[] #[]] w fun e w' => e = .returned (.bool (C.any wcB)) ∧ Below w.heap.size w w' := by
  have h1 := hidden (indexCaps_any va vc C w hr hl)
  unfold IxAt at h1
  clear hr
  generalize C.any wcB = b at *
  generalize C.length = ln at *
  go_enter Tryd.func41, Tryd.ntmps41
  go_wp2_with fail
  (with_reducible refine h1.out.mono ?_)
  rintro e w' ⟨r, rfl, hr, hb⟩
  replace hb := hidden hb
  clear h1
  go_wp2
  go_ret
  exact ⟨rfl, hb.out⟩
set_option maxRecDepth 100000 in
set_option maxHeartbeats 6400000 in
theorem ltValid_any (A : Nat → Addr) (lv cv : Value) (L : List Lt) (C : List Int) (n : Int) (w : World) (h : PbR w lv cv L C) (hE : ErrsOn [2, 4] w A) :
    Calls Tryd.prog 20 #[pbA lv cv n] w fun e w' => e = .returned (errOf A (pbC L C n)) ∧ Below w.heap.size w w' := by
  have hmf : ∀ (fn : Fn) (first cap : Array Value) (w : World), (Instr.makeFunc fn first cap).run Tryd.prog w = .ok (.func fn first cap) w := fun _ _ _ _ => rfl
  obtain ⟨la, lc, rfl⟩ := row_slice h.lots
  obtain ⟨ca, cc, rfl⟩ := reads_slice h.caps
  have hb := hidden (below_pb w pbTy (.slice la L.length lc) (.slice ca C.length cc) n)
  have hR : (w.alloc (pbO pbTy (.slice la L.length lc) (.slice ca C.length cc) n)).cell? ⟨0, 0, none⟩ = some (errAt (A 2)) := (hE.below hb.out (Nat.le_refl _)) 2 (by simp)
  have hM : (w.alloc (pbO pbTy (.slice la L.length lc) (.slice ca C.length cc) n)).cell? ⟨2, 0, none⟩ = some (errAt (A 4)) := (hE.below hb.out (Nat.le_refl _)) 4 (by simp)
  have hp := pbAt_new w pbTy (.slice la L.length lc) (.slice ca C.length cc) n
  have hw := mn_many L C
  have h1 := hidden (fun W => noCount_any (L.length : Int) W)
  have h2 := hidden (fun W => noCount_any (C.length : Int) W)
  have hlen := h.len
  by_cases hmany : manyOk L C
  · have hw' := hw.resolve_left (fun q => q.2 hmany)
    obtain ⟨t1, t2, _⟩ := hw'.resolve_left (fun q => q.2.2 hmany)
    have hr := hidden (h.below hb.out (Nat.le_refl _))
    have h3 := hidden (hasLots_any la lc L w.heap.size ca C.length cc _ hr.out.lots (by unfold manyOk at hmany; omega) hp.cells.2.1 hmany.2.2)
    have h4 := hidden (fun W hW => hasCaps_any ca cc C W (hr.out.caps.below (B := (w.alloc (pbO pbTy (.slice la L.length lc) (.slice ca C.length cc) n)).heap.size) hW (Nat.le_refl _)) (by unfold manyOk at hmany; omega))
    have h5 := hidden (fun W => ltOut_any n 1000000000000 W)
    rw [wcB_ou] at h5
    have hq : pbC L C n = if partsOk L C n then 0 else 103 := if_pos hmany
    have hk : (L.any (wrB C.length) = true ∧ pbC L C n = 103) ∨ (L.any (wrB C.length) = false ∧ C.any wcB = true ∧ pbC L C n = 103) ∨ (L.any (wrB C.length) = false ∧ C.any wcB = false ∧ wcB n = true ∧ pbC L C n = 103) ∨ (L.any (wrB C.length) = false ∧ C.any wcB = false ∧ wcB n = false ∧ pbC L C n = 0) := by
      rw [hq]
      rcases parts_ways L C n with ⟨k1, q⟩ | ⟨k1, k2, q⟩ | ⟨k1, k2, k3, q⟩ | ⟨k1, k2, k3, q⟩
      · exact .inl ⟨k1, if_neg q⟩
      · exact .inr (.inl ⟨k1, k2, if_neg q⟩)
      · exact .inr (.inr (.inl ⟨k1, k2, k3, if_neg q⟩))
      · exact .inr (.inr (.inr ⟨k1, k2, k3, if_pos q⟩))
    have hR2 := hidden (fun W (hW : Below (w.alloc (pbO pbTy (.slice la L.length lc) (.slice ca C.length cc) n)).heap.size (w.alloc (pbO pbTy (.slice la L.length lc) (.slice ca C.length cc) n)) W) => show W.cell? ⟨0, 0, none⟩ = some (errAt (A 2)) from by rw [World.cell?_of_block (w := (w.alloc (pbO pbTy (.slice la L.length lc) (.slice ca C.length cc) n))) (hW.block _ (World.block_lt_of_cell? _ _ hR))]; exact hR)
    have hpw := hidden (fun W hW => (hp.below (B := (w.alloc (pbO pbTy (.slice la L.length lc) (.slice ca C.length cc) n)).heap.size) (w' := W) hW (Nat.le_refl _)).cells)
    rw [t1] at h1
    rw [t2] at h2
    generalize pbC L C n = c at *
    generalize L.any (wrB C.length) = b1 at *
    generalize C.any wcB = b2 at *
    generalize wcB n = b3 at *
    have hmI : (L.length : Int) ≤ 8 ∧ (C.length : Int) ≤ 8 := by unfold manyOk at hmany; omega
    clear hw hw' hE hq h hR hM hp hmany
    rcases hk with ⟨k1, q⟩ | ⟨k1, k2, q⟩ | ⟨k1, k2, k3, q⟩ | ⟨k1, k2, k3, q⟩
    all_goals
      subst q
      subst k1
      try subst k2
      try subst k3
      go_enter Tryd.func20, Tryd.ntmps20
      go_wp2_with (first
        | (go_at_call 36; (with_reducible refine (h1.out _).mono ?_); rintro e w' ⟨rfl, rfl⟩)
        | (go_at_call 36; (with_reducible refine (h2.out _).mono ?_); rintro e w' ⟨rfl, rfl⟩)
        | (go_at_call 40; (with_reducible refine h3.out.mono ?_); rintro e w2 ⟨rfl, hb2⟩; have h4 := hidden (h4.out _ hb2); have hR5 := hR2.out _ hb2; have hp2 := hpw.out _ hb2; obtain ⟨c0, c1, c2⟩ := hp2; replace hb2 := hidden hb2)
        | (go_at_call 41; (with_reducible refine h4.out.mono ?_); rintro e w3 ⟨rfl, hb3⟩; replace hb3 := hidden (hb2.out.trans (hb3.mono hb2.out.size)); have hR5 := hR2.out _ hb3.out; have hp2 := hpw.out _ hb3.out; obtain ⟨c0, c1, c2⟩ := hp2)
        | (go_at_call 38; (with_reducible refine (h5.out _).mono ?_); rintro e w' ⟨rfl, rfl⟩))
      go_ret
      first
        | exact ⟨rfl, hb.out.trans (hb3.out.mono hb.out.size)⟩
        | exact ⟨rfl, hb.out.trans (hb2.out.mono hb.out.size)⟩
  · rw [pbC_many hmany]
    clear hE hp h
    rcases hw with ⟨t1, q⟩ | ⟨t1, t2, q⟩ | ⟨t1, t2, q⟩
    · rw [t1] at h1
      clear q hmany t1
      go_enter Tryd.func20, Tryd.ntmps20
      go_wp2_with (go_at_call 36; (with_reducible refine (h1.out _).mono ?_); rintro e w' ⟨rfl, rfl⟩)
      go_ret
      exact ⟨rfl, hb.out⟩
    · rw [t1] at h1
      rw [t2] at h2
      clear q hmany t1 t2
      go_enter Tryd.func20, Tryd.ntmps20
      go_wp2_with (first
        | (go_at_call 36; (with_reducible refine (h1.out _).mono ?_); rintro e w' ⟨rfl, rfl⟩)
        | (go_at_call 36; (with_reducible refine (h2.out _).mono ?_); rintro e w' ⟨rfl, rfl⟩))
      go_ret
      exact ⟨rfl, hb.out⟩
    · exact absurd q hmany
theorem errOf_pb {L : List Lt} {C : List Int} {n : Int} (A : Nat → Addr) (h : ¬ OkP L C n) : errOf A (pbC L C n) = errAt (A 2) ∨ errOf A (pbC L C n) = errAt (A 4) := by
  rcases pbC_ways L C n with q | q | q
  · exact absurd (pbC_iff.1 q) h
  · exact .inl (by rw [q]; rfl)
  · exact .inr (by rw [q]; rfl)
end Go.Proofs.YtaojahjgfgmpfaaDoor
