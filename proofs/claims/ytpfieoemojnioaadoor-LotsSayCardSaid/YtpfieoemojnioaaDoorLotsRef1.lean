/-
  The document's own: whether a problem may be; whether it may be taken.
-/
import Derived.Test.YtpfieoemojnioaaDoorLots5
namespace Go.Proofs.YtpfieoemojnioaaDoor
open Go.RowKit
set_option linter.unusedVariables false

theorem capOk_ways (c : Int) : (decide (0 ≤ c) = false ∧ ¬ capOk c) ∨ (decide (0 ≤ c) = true ∧ decide (c ≤ 1000000000000) = false ∧ ¬ capOk c) ∨ (decide (0 ≤ c) = true ∧ decide (c ≤ 1000000000000) = true ∧ capOk c) := by
  simp only [decide_eq_true_iff, decide_eq_false_iff_not]
  unfold capOk
  omega
theorem ltOk_ways (m : Nat) (x : Lt) : (decide (0 ≤ x.u) = false ∧ ¬ ltOk m x) ∨ (decide (0 ≤ x.u) = true ∧ decide (x.u ≤ 1000) = false ∧ ¬ ltOk m x) ∨ (decide (0 ≤ x.u) = true ∧ decide (x.u ≤ 1000) = true ∧ decide (0 ≤ x.v) = false ∧ ¬ ltOk m x) ∨
    (decide (0 ≤ x.u) = true ∧ decide (x.u ≤ 1000) = true ∧ decide (0 ≤ x.v) = true ∧ decide (x.v ≤ 1000000000) = false ∧ ¬ ltOk m x) ∨ (decide (0 ≤ x.u) = true ∧ decide (x.u ≤ 1000) = true ∧ decide (0 ≤ x.v) = true ∧ decide (x.v ≤ 1000000000) = true ∧ decide (0 ≤ x.c) = false ∧ ¬ ltOk m x) ∨
    (decide (0 ≤ x.u) = true ∧ decide (x.u ≤ 1000) = true ∧ decide (0 ≤ x.v) = true ∧ decide (x.v ≤ 1000000000) = true ∧ decide (0 ≤ x.c) = true ∧ decide (x.c ≤ 1000000000) = false ∧ ¬ ltOk m x) ∨
    (decide (0 ≤ x.u) = true ∧ decide (x.u ≤ 1000) = true ∧ decide (0 ≤ x.v) = true ∧ decide (x.v ≤ 1000000000) = true ∧ decide (0 ≤ x.c) = true ∧ decide (x.c ≤ 1000000000) = true ∧ decide (0 ≤ x.g) = false ∧ ¬ ltOk m x) ∨
    (decide (0 ≤ x.u) = true ∧ decide (x.u ≤ 1000) = true ∧ decide (0 ≤ x.v) = true ∧ decide (x.v ≤ 1000000000) = true ∧ decide (0 ≤ x.c) = true ∧ decide (x.c ≤ 1000000000) = true ∧ decide (0 ≤ x.g) = true ∧ decide (x.g < (m : Int)) = false ∧ ¬ ltOk m x) ∨
    (decide (0 ≤ x.u) = true ∧ decide (x.u ≤ 1000) = true ∧ decide (0 ≤ x.v) = true ∧ decide (x.v ≤ 1000000000) = true ∧ decide (0 ≤ x.c) = true ∧ decide (x.c ≤ 1000000000) = true ∧ decide (0 ≤ x.g) = true ∧ decide (x.g < (m : Int)) = true ∧ ltOk m x) := by
  by_cases h1 : 0 ≤ x.u
  · by_cases h2 : x.u ≤ 1000
    · by_cases h3 : 0 ≤ x.v
      · by_cases h4 : x.v ≤ 1000000000
        · by_cases h5 : 0 ≤ x.c
          · by_cases h6 : x.c ≤ 1000000000
            · by_cases h7 : 0 ≤ x.g
              · by_cases h8 : x.g < (m : Int)
                · exact .inr (.inr (.inr (.inr (.inr (.inr (.inr (.inr ⟨decide_eq_true h1, decide_eq_true h2, decide_eq_true h3, decide_eq_true h4, decide_eq_true h5, decide_eq_true h6, decide_eq_true h7, decide_eq_true h8, ⟨h1, h2⟩, ⟨h3, h4⟩, ⟨h5, h6⟩, h7, h8⟩)))))))
                · exact .inr (.inr (.inr (.inr (.inr (.inr (.inr (.inl ⟨decide_eq_true h1, decide_eq_true h2, decide_eq_true h3, decide_eq_true h4, decide_eq_true h5, decide_eq_true h6, decide_eq_true h7, decide_eq_false h8, fun q => h8 q.2.2.2.2⟩)))))))
              · exact .inr (.inr (.inr (.inr (.inr (.inr (.inl ⟨decide_eq_true h1, decide_eq_true h2, decide_eq_true h3, decide_eq_true h4, decide_eq_true h5, decide_eq_true h6, decide_eq_false h7, fun q => h7 q.2.2.2.1⟩))))))
            · exact .inr (.inr (.inr (.inr (.inr (.inl ⟨decide_eq_true h1, decide_eq_true h2, decide_eq_true h3, decide_eq_true h4, decide_eq_true h5, decide_eq_false h6, fun q => h6 q.2.2.1.2⟩)))))
          · exact .inr (.inr (.inr (.inr (.inl ⟨decide_eq_true h1, decide_eq_true h2, decide_eq_true h3, decide_eq_true h4, decide_eq_false h5, fun q => h5 q.2.2.1.1⟩))))
        · exact .inr (.inr (.inr (.inl ⟨decide_eq_true h1, decide_eq_true h2, decide_eq_true h3, decide_eq_false h4, fun q => h4 q.2.1.2⟩)))
      · exact .inr (.inr (.inl ⟨decide_eq_true h1, decide_eq_true h2, decide_eq_false h3, fun q => h3 q.2.1.1⟩))
    · exact .inr (.inl ⟨decide_eq_true h1, decide_eq_false h2, fun q => h2 q.1.2⟩)
  · exact .inl ⟨decide_eq_false h1, fun q => h1 q.1.1⟩
theorem many_ways (L : List Lt) (C : List Int) : (decide ((L.length : Int) < 1) = true ∧ ¬ manyOk L C) ∨ (decide ((L.length : Int) < 1) = false ∧ decide (8 < (L.length : Int)) = true ∧ ¬ manyOk L C) ∨ (decide ((L.length : Int) < 1) = false ∧ decide (8 < (L.length : Int)) = false ∧ decide ((C.length : Int) < 1) = true ∧ ¬ manyOk L C) ∨
    (decide ((L.length : Int) < 1) = false ∧ decide (8 < (L.length : Int)) = false ∧ decide ((C.length : Int) < 1) = false ∧ decide (8 < (C.length : Int)) = true ∧ ¬ manyOk L C) ∨ (decide ((L.length : Int) < 1) = false ∧ decide (8 < (L.length : Int)) = false ∧ decide ((C.length : Int) < 1) = false ∧ decide (8 < (C.length : Int)) = false ∧ manyOk L C) := by
  simp only [decide_eq_true_iff, decide_eq_false_iff_not]
  unfold manyOk
  omega
def RvC (C : List Int) (n : Int) (k : Nat) : Prop := capOk n ∧ ∀ j, j < k → capOk (C.getD j 0)
def RvL (L : List Lt) (C : List Int) (n : Int) (k : Nat) : Prop := RvC C n C.length ∧ ∀ j, j < k → ltOk C.length (L.getD j ltZ)
theorem rvC_next {C : List Int} {n : Int} {k : Nat} : RvC C n (k + 1) ↔ RvC C n k ∧ capOk (C.getD k 0) := by
  unfold RvC
  constructor
  · exact fun h => ⟨⟨h.1, fun j hj => h.2 j (by omega)⟩, h.2 k (by omega)⟩
  · rintro ⟨⟨h1, h2⟩, h3⟩
    refine ⟨h1, fun j hj => ?_⟩
    by_cases e : j = k
    · subst e; exact h3
    · exact h2 j (by omega)
theorem rvL_next {L : List Lt} {C : List Int} {n : Int} {k : Nat} : RvL L C n (k + 1) ↔ RvL L C n k ∧ ltOk C.length (L.getD k ltZ) := by
  unfold RvL
  constructor
  · exact fun h => ⟨⟨h.1, fun j hj => h.2 j (by omega)⟩, h.2 k (by omega)⟩
  · rintro ⟨⟨h1, h2⟩, h3⟩
    refine ⟨h1, fun j hj => ?_⟩
    by_cases e : j = k
    · subst e; exact h3
    · exact h2 j (by omega)
theorem all_getL {p : Lt → Prop} {l : List Lt} : (∀ j, j < l.length → p (l.getD j ltZ)) ↔ ∀ x ∈ l, p x := by
  constructor
  · intro h x hx
    obtain ⟨j, hj, rfl⟩ := List.getElem_of_mem hx
    have := h j hj
    rwa [List.getD_eq_getElem?_getD, List.getElem?_eq_getElem hj] at this
  · intro h j hj
    rw [List.getD_eq_getElem?_getD, List.getElem?_eq_getElem hj]
    exact h _ (List.getElem_mem hj)
theorem all_getI {p : Int → Prop} {l : List Int} : (∀ j, j < l.length → p (l.getD j 0)) ↔ ∀ x ∈ l, p x := by
  constructor
  · intro h x hx
    obtain ⟨j, hj, rfl⟩ := List.getElem_of_mem hx
    have := h j hj
    rwa [List.getD_eq_getElem?_getD, List.getElem?_eq_getElem hj] at this
  · intro h j hj
    rw [List.getD_eq_getElem?_getD, List.getElem?_eq_getElem hj]
    exact h _ (List.getElem_mem hj)
theorem rv_parts (L : List Lt) (C : List Int) (n : Int) : RvL L C n L.length ↔ partsOk L C n := by
  unfold RvL RvC partsOk
  rw [all_getL, all_getI]
  constructor
  · exact fun h => ⟨h.2, h.1.2, h.1.1⟩
  · exact fun h => ⟨⟨h.2.2, h.2.1⟩, h.1⟩
def RvRel1 (C : List Int) (n : Int) (w0 : World) (b i : Value) (w : World) : Prop := ∃ (k : Nat) (B : Bool), k ≤ C.length ∧ i = .int .i64 (k : Int) ∧ b = .bool B ∧ (B = true ↔ RvC C n k) ∧ w0 = w
def RvRel2 (L : List Lt) (C : List Int) (n : Int) (w0 : World) (b i : Value) (w : World) : Prop := ∃ (k : Nat) (B : Bool), k ≤ L.length ∧ i = .int .i64 (k : Int) ∧ b = .bool B ∧ (B = true ↔ RvL L C n k) ∧ Below w0.heap.size w0 w
set_option maxRecDepth 100000 in
set_option maxHeartbeats 12800000 in
theorem r18Valid_any (lv cv : Value) (L : List Lt) (C : List Int) (n : Int) (w : World) (h : PbR w lv cv L C) :
    Calls Tryd.prog 11 #[pbA lv cv n] w fun e w' => e = .returned (.int .i64 (pbC L C n)) ∧ Below w.heap.size w w' := by
  have hb0 := below_pb w pbTyR lv cv n
  have hpb := pbAt_new w pbTyR lv cv n
  have hbx := hidden (fun W (hW : Below (w.alloc (pbO pbTyR lv cv n)).heap.size (w.alloc (pbO pbTyR lv cv n)) W) => hb0.trans (hW.mono hb0.size))
  have hc := hidden (fun W (hW : Below (w.alloc (pbO pbTyR lv cv n)).heap.size (w.alloc (pbO pbTyR lv cv n)) W) => (hpb.below hW (Nat.le_refl _)).cells)
  have hR := hidden (fun W (hW : Below (w.alloc (pbO pbTyR lv cv n)).heap.size (w.alloc (pbO pbTyR lv cv n)) W) => h.below (hbx.out W hW) (Nat.le_refl _))
  obtain ⟨la, lc, rfl⟩ := row_slice h.lots
  obtain ⟨ca, cc, rfl⟩ := reads_slice h.caps
  have hx := hidden (fun k hk W hW => rowLt_at (hR.out W hW).lots k hk)
  have hy := hidden (fun k hk W hW => (hR.out W hW).caps.cell k hk)
  have hlen := h.len
  have hbe := hidden hb0
  have d0 := (hc.out _ (Below.refl _ _)).1
  have d1 := (hc.out _ (Below.refl _ _)).2.1
  have d2 := (hc.out _ (Below.refl _ _)).2.2
  clear h hb0 hpb hR
  by_cases hmany : manyOk L C
  · have hm := many_ways L C
    replace hm := hm.resolve_left (fun q => q.2 hmany)
    replace hm := hm.resolve_left (fun q => q.2.2 hmany)
    replace hm := hm.resolve_left (fun q => q.2.2.2 hmany)
    replace hm := hm.resolve_left (fun q => q.2.2.2.2 hmany)
    obtain ⟨m1, m2, m3, m4, _⟩ := hm
    have hq : pbC L C n = if partsOk L C n then 0 else 103 := if_pos hmany
    have hL8 := hmany.1.2
    have hC8 := hmany.2.2
    have hend := hidden (fun (B : Bool) (q : B = true ↔ RvL L C n L.length) => show pbC L C n = (if B = true then 0 else 103) from by
      rw [hq]
      by_cases z : partsOk L C n
      · rw [if_pos z, if_pos (q.2 ((rv_parts L C n).2 z))]
      · rw [if_neg z, if_neg (fun z2 => z ((rv_parts L C n).1 (q.1 z2)))])
    clear hq hmany
    have hw := capOk_ways n
    have hstart : ∃ B : Bool, (B = true ↔ RvC C n 0) ∧ ((decide (0 ≤ n) = false ∧ B = false) ∨ (decide (0 ≤ n) = true ∧ decide (n ≤ 1000000000000) = false ∧ B = false) ∨ (decide (0 ≤ n) = true ∧ decide (n ≤ 1000000000000) = true ∧ B = true)) := by
      have e : RvC C n 0 ↔ capOk n := by unfold RvC; simp
      rcases hw with ⟨q1, q⟩ | ⟨q1, q2, q⟩ | ⟨q1, q2, q⟩
      · exact ⟨false, by rw [e]; simp [q], .inl ⟨q1, rfl⟩⟩
      · exact ⟨false, by rw [e]; simp [q], .inr (.inl ⟨q1, q2, rfl⟩)⟩
      · exact ⟨true, by rw [e]; simp [q], .inr (.inr ⟨q1, q2, rfl⟩)⟩
    obtain ⟨B0, hB0, hw0⟩ := hstart
    replace hB0 := hidden hB0
    clear hw
    rcases hw0 with ⟨p1, rfl⟩ | ⟨p1, p2, rfl⟩ | ⟨p1, p2, rfl⟩
    all_goals
      go_enter Tryd.func11, Tryd.ntmps11
      go_wp2_with fail
      generalize w.alloc (pbO pbTyR (.slice la L.length lc) (.slice ca C.length cc) n) = wP at *
      go_loopw [3, 4] (fun b i wr => RvRel1 C n wP b i wr) (fun _ i _ => C.length - (RowKit.intOf i).toNat)
      case atStart => exact ⟨0, _, Nat.zero_le _, rfl, rfl, (by first | exact hB0.out | simpa using hB0.out), rfl⟩
      case round =>
        obtain ⟨k, B, hk, rfl, rfl, hB, rfl⟩ := hrel
        clear hB0
        by_cases hkm : k < C.length
        · have hkI : (k : Int) < (C.length : Int) := by omega
          obtain ⟨bc, oc, rfl, cc0⟩ := hy.out k hkm _ (Below.refl _ _)
          have hN := hidden (fun B' (q : B' = true ↔ B = true ∧ capOk (C.getD k 0)) => show B' = true ↔ RvC C n (k + 1) from by rw [q, hB, rvC_next])
          have hways := capOk_ways (C.getD k 0)
          clear hB hx hy hend
          generalize C.getD k 0 = c at *
          cases B
          · have hN2 := hidden (hN.out false (by simp))
            clear hN hways
            go_wp2
            go_roundw
            case rel => exact ⟨k + 1, false, hkm, by go_num, rfl, hN2.out, rfl⟩
            case measure => simp [RowKit.intOf]; omega
          · rcases hways with ⟨z1, z⟩ | ⟨z1, z2, z⟩ | ⟨z1, z2, z⟩
            · have hN2 := hidden (hN.out false (by simp [z]))
              clear hN z
              go_wp2
              go_roundw
              case rel => exact ⟨k + 1, false, hkm, by go_num, rfl, hN2.out, rfl⟩
              case measure => simp [RowKit.intOf]; omega
            · have hN2 := hidden (hN.out false (by simp [z]))
              clear hN z
              go_wp2
              go_roundw
              case rel => exact ⟨k + 1, false, hkm, by go_num, rfl, hN2.out, rfl⟩
              case measure => simp [RowKit.intOf]; omega
            · have hN2 := hidden (hN.out true (by simp [z]))
              clear hN z
              go_wp2
              go_roundw
              case rel => exact ⟨k + 1, true, hkm, by go_num, rfl, hN2.out, rfl⟩
              case measure => simp [RowKit.intOf]; omega
        · obtain rfl : k = C.length := by omega
          have hB1 := hidden (show B = true ↔ RvL L C n 0 from by
            rw [hB]
            unfold RvL
            simp)
          clear hB hy
          go_wp2_with fail
          go_loopw [3, 5] (fun b i wr => RvRel2 L C n wP b i wr) (fun _ i _ => L.length - (RowKit.intOf i).toNat)
          case atStart => exact ⟨0, B, Nat.zero_le _, rfl, rfl, hB1.out, Below.refl _ _⟩
          case round =>
            clear hB1 d0 d1 d2
            obtain ⟨k, B', hk, rfl, rfl, hB, hb⟩ := hrel
            obtain ⟨c0, c1, c2⟩ := hc.out _ hb
            by_cases hkm : k < L.length
            · have hkI : (k : Int) < (L.length : Int) := by omega
              obtain ⟨bl, ol, rfl, q0, q1, q2, q3⟩ := hx.out k hkm _ hb
              have hN := hidden (fun B2 (q : B2 = true ↔ B' = true ∧ ltOk C.length (L.getD k ltZ)) => show B2 = true ↔ RvL L C n (k + 1) from by rw [q, hB, rvL_next])
              have hways := ltOk_ways C.length (L.getD k ltZ)
              have hbw := below_lt wr (L.getD k ltZ)
              have hbn := hidden (hb.trans (hbw.mono hb.size))
              obtain ⟨e0, e1, e2⟩ := hc.out _ hbn.out
              clear hB hx hend hbw
              generalize L.getD k ltZ = y at *
              obtain ⟨yu, yv, yc, yg⟩ := y
              simp only at q0 q1 q2 q3 hways
              replace hb := hidden hb
              cases B'
              · have hN2 := hidden (hN.out false (by simp))
                clear hN hways
                go_wp2
                go_roundw
                case rel => exact ⟨k + 1, false, hkm, by go_num, rfl, hN2.out, hbn.out⟩
                case measure => simp [RowKit.intOf]; omega
              · rcases hways with ⟨z1, z⟩ | ⟨z1, z2, z⟩ | ⟨z1, z2, z3, z⟩ | ⟨z1, z2, z3, z4, z⟩ | ⟨z1, z2, z3, z4, z5, z⟩ | ⟨z1, z2, z3, z4, z5, z6, z⟩ | ⟨z1, z2, z3, z4, z5, z6, z7, z⟩ | ⟨z1, z2, z3, z4, z5, z6, z7, z8, z⟩ | ⟨z1, z2, z3, z4, z5, z6, z7, z8, z⟩
                all_goals
                  first
                    | (have hN2 := hidden (hN.out false (by simp [z]))
                       clear hN z
                       go_wp2
                       go_roundw
                       case rel => exact ⟨k + 1, false, hkm, by go_num, rfl, hN2.out, hbn.out⟩
                       case measure => simp [RowKit.intOf]; omega)
                    | (have hN2 := hidden (hN.out true (by simp [z]))
                       clear hN z
                       go_wp2
                       go_roundw
                       case rel => exact ⟨k + 1, true, hkm, by go_num, rfl, hN2.out, hbn.out⟩
                       case measure => simp [RowKit.intOf]; omega)
            · obtain rfl : k = L.length := by omega
              have hE := hidden (hend.out B' hB)
              replace hb := hidden (hbx.out _ hb)
              clear hB hend hx
              cases B'
              all_goals
                go_wp2
                go_ret
                exact ⟨ret_int (by rw [hE.out]; rfl), hb.out⟩
  · rw [pbC_many hmany]
    have hm := many_ways L C
    clear hx hy
    rcases hm with ⟨m1, q⟩ | ⟨m1, m2, q⟩ | ⟨m1, m2, m3, q⟩ | ⟨m1, m2, m3, m4, q⟩ | ⟨m1, m2, m3, m4, q⟩
    · clear q hmany
      go_enter Tryd.func11, Tryd.ntmps11
      go_wp2
      go_ret
      exact ⟨rfl, hbe.out⟩
    · clear q hmany
      go_enter Tryd.func11, Tryd.ntmps11
      go_wp2
      go_ret
      exact ⟨rfl, hbe.out⟩
    · clear q hmany
      go_enter Tryd.func11, Tryd.ntmps11
      go_wp2
      go_ret
      exact ⟨rfl, hbe.out⟩
    · clear q hmany
      go_enter Tryd.func11, Tryd.ntmps11
      go_wp2
      go_ret
      exact ⟨rfl, hbe.out⟩
    · exact absurd q hmany
end Go.Proofs.YtpfieoemojnioaaDoor
