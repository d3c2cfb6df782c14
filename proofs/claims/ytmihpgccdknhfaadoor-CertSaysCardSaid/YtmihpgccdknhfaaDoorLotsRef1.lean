/-
  The document's own: whether a problem may be; whether it may be taken.
  The document's own: right, Cost, Fits, Full.
  The document's own: Worth, Fits, Most.
  The document's own: dearer, Order.
  The document's own: Greedy.
-/
import Derived.Test.YtmihpgccdknhfaaDoorLots1
import Derived.Deep.DeepCutAuto
import Derived.Test.YtmihpgccdknhfaaDoorSee
import Derived.Test.YtmihpgccdknhfaaDoorLots6
import Derived.Test.YtmihpgccdknhfaaDoorRefCmp
import Derived.Deep.CutBlock
namespace Go.Proofs.YtmihpgccdknhfaaDoor
open Go.RowKit
set_option linter.unusedVariables false

theorem capOk_ways (c : Int) : (decide (0 ≤ c) = false ∧ ¬ capOk c) ∨ (decide (0 ≤ c) = true ∧ decide (c ≤ 1000000000000) = false ∧ ¬ capOk c) ∨ (decide (0 ≤ c) = true ∧ decide (c ≤ 1000000000000) = true ∧ capOk c) := by
  simp only [decide_eq_true_iff, decide_eq_false_iff_not]
  unfold capOk
  omega
theorem ltOk_ways (m : Nat) (x : Lt) : (decide (0 ≤ x.u) = false ∧ ¬ ltOk m x) ∨ (decide (0 ≤ x.u) = true ∧ decide (x.u ≤ 1000) = false ∧ ¬ ltOk m x) ∨ (decide (0 ≤ x.u) = true ∧ decide (x.u ≤ 1000) = true ∧ decide (0 ≤ x.v) = false ∧ ¬ ltOk m x) ∨
    (decide (0 ≤ x.u) = true ∧ decide (x.u ≤ 1000) = true ∧ decide (0 ≤ x.v) = true ∧ decide (x.v ≤ 1000000000) = false ∧ ¬ ltOk m x) ∨ (decide (0 ≤ x.u) = true ∧ decide (x.u ≤ 1000) = true ∧ decide (0 ≤ x.v) = true ∧ decide (x.v ≤ 1000000000) = true ∧ decide (0 ≤ x.c) = false ∧ ¬ ltOk m x) ∨
    (decide (0 ≤ x.u) = true ∧ decide (x.u ≤ 1000) = true ∧ decide (0 ≤ x.v) = true ∧ decide (x.v ≤ 1000000000) = true ∧ decide (0 ≤ x.c) = true ∧ decide (x.c ≤ 1000000000) = false ∧ ¬ ltOk m x) ∨
    (decide (0 ≤ x.u) = true ∧ decide (x.u ≤ 1000) = true ∧ decide (0 ≤ x.v) = true ∧ decide (x.v ≤ 1000000000) = true ∧ decide (0 ≤ x.c) = true ∧ decide (x.c ≤ 1000000000) = true ∧ decide (0 ≤ x.g) = false ∧ ¬ ltOk m x) ∨
    (decide (0 ≤ x.u) = true ∧ decide (x.u ≤ 1000) = true ∧ decide (0 ≤ x.v) = true ∧ decide (x.v ≤ 1000000000) = true ∧ decide (0 ≤ x.c) = true ∧ decide (x.c ≤ 1000000000) = true ∧ decide (0 ≤ x.g) = true ∧ decide (x.g < (m : Int)) = false ∧ ¬ ltOk m x) ∨
    (decide (0 ≤ x.u) = true ∧ decide (x.u ≤ 1000) = true ∧ decide (0 ≤ x.v) = true ∧ decide (x.v ≤ 1000000000) = true ∧ decide (0 ≤ x.c) = true ∧ decide (x.c ≤ 1000000000) = true ∧ decide (0 ≤ x.g) = true ∧ decide (x.g < (m : Int)) = true ∧ ltOk m x) := by
  by_cases h1 : 0 ≤ x.u
  · by_cases h2 : x.u ≤ 1000
    · by_cases h3 : 0 ≤ x.v
      · by_cases h4 : x.v ≤ 1000000000
        · by_cases h5 : 0 ≤ x.c
          · by_cases h6 : x.c ≤ 1000000000
            · by_cases h7 : 0 ≤ x.g
              · by_cases h8 : x.g < (m : Int)
                · exact .inr (.inr (.inr (.inr (.inr (.inr (.inr (.inr ⟨decide_eq_true h1, decide_eq_true h2, decide_eq_true h3, decide_eq_true h4, decide_eq_true h5, decide_eq_true h6, decide_eq_true h7, decide_eq_true h8, ⟨h1, h2⟩, ⟨h3, h4⟩, ⟨h5, h6⟩, h7, h8⟩)))))))
                · exact .inr (.inr (.inr (.inr (.inr (.inr (.inr (.inl ⟨decide_eq_true h1, decide_eq_true h2, decide_eq_true h3, decide_eq_true h4, decide_eq_true h5, decide_eq_true h6, decide_eq_true h7, decide_eq_false h8, fun q => h8 q.2.2.2.2⟩)))))))
              · exact .inr (.inr (.inr (.inr (.inr (.inr (.inl ⟨decide_eq_true h1, decide_eq_true h2, decide_eq_true h3, decide_eq_true h4, decide_eq_true h5, decide_eq_true h6, decide_eq_false h7, fun q => h7 q.2.2.2.1⟩))))))
            · exact .inr (.inr (.inr (.inr (.inr (.inl ⟨decide_eq_true h1, decide_eq_true h2, decide_eq_true h3, decide_eq_true h4, decide_eq_true h5, decide_eq_false h6, fun q => h6 q.2.2.1.2⟩)))))
          · exact .inr (.inr (.inr (.inr (.inl ⟨decide_eq_true h1, decide_eq_true h2, decide_eq_true h3, decide_eq_true h4, decide_eq_false h5, fun q => h5 q.2.2.1.1⟩))))
        · exact .inr (.inr (.inr (.inl ⟨decide_eq_true h1, decide_eq_true h2, decide_eq_true h3, decide_eq_false h4, fun q => h4 q.2.1.2⟩)))
      · exact .inr (.inr (.inl ⟨decide_eq_true h1, decide_eq_true h2, decide_eq_false h3, fun q => h3 q.2.1.1⟩))
    · exact .inr (.inl ⟨decide_eq_true h1, decide_eq_false h2, fun q => h2 q.1.2⟩)
  · exact .inl ⟨decide_eq_false h1, fun q => h1 q.1.1⟩
theorem many_ways (L : List Lt) (C : List Int) : (decide ((L.length : Int) < 1) = true ∧ ¬ manyOk L C) ∨ (decide ((L.length : Int) < 1) = false ∧ decide (8 < (L.length : Int)) = true ∧ ¬ manyOk L C) ∨ (decide ((L.length : Int) < 1) = false ∧ decide (8 < (L.length : Int)) = false ∧ decide ((C.length : Int) < 1) = true ∧ ¬ manyOk L C) ∨
    (decide ((L.length : Int) < 1) = false ∧ decide (8 < (L.length : Int)) = false ∧ decide ((C.length : Int) < 1) = false ∧ decide (8 < (C.length : Int)) = true ∧ ¬ manyOk L C) ∨ (decide ((L.length : Int) < 1) = false ∧ decide (8 < (L.length : Int)) = false ∧ decide ((C.length : Int) < 1) = false ∧ decide (8 < (C.length : Int)) = false ∧ manyOk L C) := by
  simp only [decide_eq_true_iff, decide_eq_false_iff_not]
  unfold manyOk
  omega
def RvC (C : List Int) (n : Int) (k : Nat) : Prop := capOk n ∧ ∀ j, j < k → capOk (C.getD j 0)
def RvL (L : List Lt) (C : List Int) (n : Int) (k : Nat) : Prop := RvC C n C.length ∧ ∀ j, j < k → ltOk C.length (L.getD j ltZ)
theorem rvC_next {C : List Int} {n : Int} {k : Nat} : RvC C n (k + 1) ↔ RvC C n k ∧ capOk (C.getD k 0) := by
  unfold RvC
  constructor
  · exact fun h => ⟨⟨h.1, fun j hj => h.2 j (by omega)⟩, h.2 k (by omega)⟩
  · rintro ⟨⟨h1, h2⟩, h3⟩
    refine ⟨h1, fun j hj => ?_⟩
    by_cases e : j = k
    · subst e; exact h3
    · exact h2 j (by omega)
theorem rvL_next {L : List Lt} {C : List Int} {n : Int} {k : Nat} : RvL L C n (k + 1) ↔ RvL L C n k ∧ ltOk C.length (L.getD k ltZ) := by
  unfold RvL
  constructor
  · exact fun h => ⟨⟨h.1, fun j hj => h.2 j (by omega)⟩, h.2 k (by omega)⟩
  · rintro ⟨⟨h1, h2⟩, h3⟩
    refine ⟨h1, fun j hj => ?_⟩
    by_cases e : j = k
    · subst e; exact h3
    · exact h2 j (by omega)
theorem all_getL {p : Lt → Prop} {l : List Lt} : (∀ j, j < l.length → p (l.getD j ltZ)) ↔ ∀ x ∈ l, p x := by
  constructor
  · intro h x hx
    obtain ⟨j, hj, rfl⟩ := List.getElem_of_mem hx
    have := h j hj
    rwa [List.getD_eq_getElem?_getD, List.getElem?_eq_getElem hj] at this
  · intro h j hj
    rw [List.getD_eq_getElem?_getD, List.getElem?_eq_getElem hj]
    exact h _ (List.getElem_mem hj)
theorem all_getI {p : Int → Prop} {l : List Int} : (∀ j, j < l.length → p (l.getD j 0)) ↔ ∀ x ∈ l, p x := by
  constructor
  · intro h x hx
    obtain ⟨j, hj, rfl⟩ := List.getElem_of_mem hx
    have := h j hj
    rwa [List.getD_eq_getElem?_getD, List.getElem?_eq_getElem hj] at this
  · intro h j hj
    rw [List.getD_eq_getElem?_getD, List.getElem?_eq_getElem hj]
    exact h _ (List.getElem_mem hj)
theorem rv_parts (L : List Lt) (C : List Int) (n : Int) : RvL L C n L.length ↔ partsOk L C n := by
  unfold RvL RvC partsOk
  rw [all_getL, all_getI]
  constructor
  · exact fun h => ⟨h.2, h.1.2, h.1.1⟩
  · exact fun h => ⟨⟨h.2.2, h.2.1⟩, h.1⟩
def RvRel1 (C : List Int) (n : Int) (w0 : World) (b i : Value) (w : World) : Prop := ∃ (k : Nat) (B : Bool), k ≤ C.length ∧ i = .int .i64 (k : Int) ∧ b = .bool B ∧ (B = true ↔ RvC C n k) ∧ w0 = w
def RvRel2 (L : List Lt) (C : List Int) (n : Int) (w0 : World) (b i : Value) (w : World) : Prop := ∃ (k : Nat) (B : Bool), k ≤ L.length ∧ i = .int .i64 (k : Int) ∧ b = .bool B ∧ (B = true ↔ RvL L C n k) ∧ Below w0.heap.size w0 w
set_option maxRecDepth 100000 in
set_option maxHeartbeats 12800000 in
theorem r18Valid_any (lv cv : Value) (L : List Lt) (C : List Int) (n : Int) (w : World) (h : PbR w lv cv L C) :
    Calls Tryd.prog 7 #[pbA lv cv n] w fun e w' => e = .returned (.int .i64 (pbC L C n)) ∧ Below w.heap.size w w' := by
  have hb0 := below_pb w pbTyR lv cv n
  have hpb := pbAt_new w pbTyR lv cv n
  have hbx := hidden (fun W (hW : Below (w.alloc (pbO pbTyR lv cv n)).heap.size (w.alloc (pbO pbTyR lv cv n)) W) => hb0.trans (hW.mono hb0.size))
  have hc := hidden (fun W (hW : Below (w.alloc (pbO pbTyR lv cv n)).heap.size (w.alloc (pbO pbTyR lv cv n)) W) => (hpb.below hW (Nat.le_refl _)).cells)
  have hR := hidden (fun W (hW : Below (w.alloc (pbO pbTyR lv cv n)).heap.size (w.alloc (pbO pbTyR lv cv n)) W) => h.below (hbx.out W hW) (Nat.le_refl _))
  obtain ⟨la, lc, rfl⟩ := row_slice h.lots
  obtain ⟨ca, cc, rfl⟩ := reads_slice h.caps
  have hx := hidden (fun k hk W hW => rowLt_at (hR.out W hW).lots k hk)
  have hy := hidden (fun k hk W hW => (hR.out W hW).caps.cell k hk)
  have hlen := h.len
  have hbe := hidden hb0
  have d0 := (hc.out _ (Below.refl _ _)).1
  have d1 := (hc.out _ (Below.refl _ _)).2.1
  have d2 := (hc.out _ (Below.refl _ _)).2.2
  clear h hb0 hpb hR
  by_cases hmany : manyOk L C
  · have hm := many_ways L C
    replace hm := hm.resolve_left (fun q => q.2 hmany)
    replace hm := hm.resolve_left (fun q => q.2.2 hmany)
    replace hm := hm.resolve_left (fun q => q.2.2.2 hmany)
    replace hm := hm.resolve_left (fun q => q.2.2.2.2 hmany)
    obtain ⟨m1, m2, m3, m4, _⟩ := hm
    have hq : pbC L C n = if partsOk L C n then 0 else 103 := if_pos hmany
    have hL8 := hmany.1.2
    have hC8 := hmany.2.2
    have hend := hidden (fun (B : Bool) (q : B = true ↔ RvL L C n L.length) => show pbC L C n = (if B = true then 0 else 103) from by
      rw [hq]
      by_cases z : partsOk L C n
      · rw [if_pos z, if_pos (q.2 ((rv_parts L C n).2 z))]
      · rw [if_neg z, if_neg (fun z2 => z ((rv_parts L C n).1 (q.1 z2)))])
    clear hq hmany
    have hw := capOk_ways n
    have hstart : ∃ B : Bool, (B = true ↔ RvC C n 0) ∧ ((decide (0 ≤ n) = false ∧ B = false) ∨ (decide (0 ≤ n) = true ∧ decide (n ≤ 1000000000000) = false ∧ B = false) ∨ (decide (0 ≤ n) = true ∧ decide (n ≤ 1000000000000) = true ∧ B = true)) := by
      have e : RvC C n 0 ↔ capOk n := by unfold RvC; simp
      rcases hw with ⟨q1, q⟩ | ⟨q1, q2, q⟩ | ⟨q1, q2, q⟩
      · exact ⟨false, by rw [e]; simp [q], .inl ⟨q1, rfl⟩⟩
      · exact ⟨false, by rw [e]; simp [q], .inr (.inl ⟨q1, q2, rfl⟩)⟩
      · exact ⟨true, by rw [e]; simp [q], .inr (.inr ⟨q1, q2, rfl⟩)⟩
    obtain ⟨B0, hB0, hw0⟩ := hstart
    replace hB0 := hidden hB0
    clear hw
    go_enter Tryd.func7, Tryd.ntmps7
    go_upto_region 3 with (fail)
    generalize w.alloc (pbO pbTyR (.slice la L.length lc) (.slice ca C.length cc) n) = wP at *
    go_cut [3] (fun b wx => ∃ B, b = .bool B ∧ (B = true ↔ RvC C n 0) ∧ wP = wx)
    case first =>
      clear hend hx hy
      rcases hw0 with ⟨p1, rfl⟩ | ⟨p1, p2, rfl⟩ | ⟨p1, p2, rfl⟩
      all_goals
        go_wp2
        go_meet
        exact ⟨_, rfl, (by first | exact hB0.out | simpa using hB0.out), rfl⟩
    case rest =>
      obtain ⟨B1, rfl, hB1, rfl⟩ := hcut
      clear hB0 hw0
      obtain ⟨B0, hB0, e0⟩ : ∃ B0, Hid (B0 = true ↔ RvC C n 0) ∧ B1 = B0 := ⟨B1, hidden hB1, rfl⟩
      subst e0
      clear hB1
      go_wp2_with fail
      go_loopw [3, 4] (fun b i wr => RvRel1 C n wP b i wr) (fun _ i _ => C.length - (RowKit.intOf i).toNat)
      case atStart => exact ⟨0, _, Nat.zero_le _, rfl, rfl, hB0.out, rfl⟩
      case round =>
        obtain ⟨k, B, hk, rfl, rfl, hB, rfl⟩ := hrel
        clear hB0
        by_cases hkm : k < C.length
        · have hkI : (k : Int) < (C.length : Int) := by omega
          obtain ⟨bc, oc, rfl, cc0⟩ := hy.out k hkm _ (Below.refl _ _)
          have hN := hidden (fun B' (q : B' = true ↔ B = true ∧ capOk (C.getD k 0)) => show B' = true ↔ RvC C n (k + 1) from by rw [q, hB, rvC_next])
          have hways := capOk_ways (C.getD k 0)
          clear hB hx hy hend
          generalize C.getD k 0 = c at *
          cases B
          · have hN2 := hidden (hN.out false (by simp))
            clear hN hways
            go_wp2
            go_roundw
            case rel => exact ⟨k + 1, false, hkm, by go_num, rfl, hN2.out, rfl⟩
            case measure => simp [RowKit.intOf]; omega
          · rcases hways with ⟨z1, z⟩ | ⟨z1, z2, z⟩ | ⟨z1, z2, z⟩
            · have hN2 := hidden (hN.out false (by simp [z]))
              clear hN z
              go_wp2
              go_roundw
              case rel => exact ⟨k + 1, false, hkm, by go_num, rfl, hN2.out, rfl⟩
              case measure => simp [RowKit.intOf]; omega
            · have hN2 := hidden (hN.out false (by simp [z]))
              clear hN z
              go_wp2
              go_roundw
              case rel => exact ⟨k + 1, false, hkm, by go_num, rfl, hN2.out, rfl⟩
              case measure => simp [RowKit.intOf]; omega
            · have hN2 := hidden (hN.out true (by simp [z]))
              clear hN z
              go_wp2
              go_roundw
              case rel => exact ⟨k + 1, true, hkm, by go_num, rfl, hN2.out, rfl⟩
              case measure => simp [RowKit.intOf]; omega
        · obtain rfl : k = C.length := by omega
          have hB1 := hidden (show B = true ↔ RvL L C n 0 from by
            rw [hB]
            unfold RvL
            simp)
          clear hB hy
          go_wp2_with fail
          go_loopw [3, 5] (fun b i wr => RvRel2 L C n wP b i wr) (fun _ i _ => L.length - (RowKit.intOf i).toNat)
          case atStart => exact ⟨0, B, Nat.zero_le _, rfl, rfl, hB1.out, Below.refl _ _⟩
          case round =>
            clear hB1 d0 d1 d2
            obtain ⟨k, B', hk, rfl, rfl, hB, hb⟩ := hrel
            obtain ⟨c0, c1, c2⟩ := hc.out _ hb
            by_cases hkm : k < L.length
            · have hkI : (k : Int) < (L.length : Int) := by omega
              obtain ⟨bl, ol, rfl, q0, q1, q2, q3⟩ := hx.out k hkm _ hb
              have hN := hidden (fun B2 (q : B2 = true ↔ B' = true ∧ ltOk C.length (L.getD k ltZ)) => show B2 = true ↔ RvL L C n (k + 1) from by rw [q, hB, rvL_next])
              have hways := ltOk_ways C.length (L.getD k ltZ)
              have hbw := below_lt wr (L.getD k ltZ)
              have hbn := hidden (hb.trans (hbw.mono hb.size))
              obtain ⟨e0, e1, e2⟩ := hc.out _ hbn.out
              clear hB hx hend hbw
              generalize L.getD k ltZ = y at *
              obtain ⟨yu, yv, yc, yg⟩ := y
              simp only at q0 q1 q2 q3 hways
              replace hb := hidden hb
              cases B'
              · have hN2 := hidden (hN.out false (by simp))
                clear hN hways
                go_wp2
                go_roundw
                case rel => exact ⟨k + 1, false, hkm, by go_num, rfl, hN2.out, hbn.out⟩
                case measure => simp [RowKit.intOf]; omega
              · rcases hways with ⟨z1, z⟩ | ⟨z1, z2, z⟩ | ⟨z1, z2, z3, z⟩ | ⟨z1, z2, z3, z4, z⟩ | ⟨z1, z2, z3, z4, z5, z⟩ | ⟨z1, z2, z3, z4, z5, z6, z⟩ | ⟨z1, z2, z3, z4, z5, z6, z7, z⟩ | ⟨z1, z2, z3, z4, z5, z6, z7, z8, z⟩ | ⟨z1, z2, z3, z4, z5, z6, z7, z8, z⟩
                all_goals
                  first
                    | (have hN2 := hidden (hN.out false (by simp [z]))
                       clear hN z
                       go_wp2
                       go_roundw
                       case rel => exact ⟨k + 1, false, hkm, by go_num, rfl, hN2.out, hbn.out⟩
                       case measure => simp [RowKit.intOf]; omega)
                    | (have hN2 := hidden (hN.out true (by simp [z]))
                       clear hN z
                       go_wp2
                       go_roundw
                       case rel => exact ⟨k + 1, true, hkm, by go_num, rfl, hN2.out, hbn.out⟩
                       case measure => simp [RowKit.intOf]; omega)
            · obtain rfl : k = L.length := by omega
              have hE := hidden (hend.out B' hB)
              replace hb := hidden (hbx.out _ hb)
              clear hB hend hx
              cases B'
              all_goals
                go_wp2
                go_ret
                exact ⟨ret_int (by rw [hE.out]; rfl), hb.out⟩
  · rw [pbC_many hmany]
    have hm := many_ways L C
    clear hx hy
    rcases hm with ⟨m1, q⟩ | ⟨m1, m2, q⟩ | ⟨m1, m2, m3, q⟩ | ⟨m1, m2, m3, m4, q⟩ | ⟨m1, m2, m3, m4, q⟩
    · clear q hmany
      go_enter Tryd.func7, Tryd.ntmps7
      go_wp2
      go_ret
      exact ⟨rfl, hbe.out⟩
    · clear q hmany
      go_enter Tryd.func7, Tryd.ntmps7
      go_wp2
      go_ret
      exact ⟨rfl, hbe.out⟩
    · clear q hmany
      go_enter Tryd.func7, Tryd.ntmps7
      go_wp2
      go_ret
      exact ⟨rfl, hbe.out⟩
    · clear q hmany
      go_enter Tryd.func7, Tryd.ntmps7
      go_wp2
      go_ret
      exact ⟨rfl, hbe.out⟩
    · exact absurd q hmany
end Go.Proofs.YtmihpgccdknhfaaDoor
namespace Go.Proofs.YtmihpgccdknhfaaDoor
open Go.RowKit
set_option linter.unusedVariables false

set_option maxRecDepth 100000 in
set_option maxHeartbeats 6400000 in
theorem r18Right_any (lv cv : Value) (L : List Lt) (C : List Int) (n : Int) (tv : Value) (t : List Int) (w : World) (h : PbR w lv cv L C) (hr : Reads .i64 w tv t) :
    Calls Tryd.prog 23 #[pbA lv cv n, tv] w fun e w' => e = .returned (.bool (goodB L C n t)) ∧ Below w.heap.size w w' := by
  have hb0 := below_pb w pbTyR lv cv n
  have hV := hidden (r18Valid_any lv cv L C n _ (h.below hb0 (Nat.le_refl _)))
  have hpb := pbAt_new w pbTyR lv cv n
  have hbx := hidden (fun W (hW : Below (w.alloc (pbO pbTyR lv cv n)).heap.size (w.alloc (pbO pbTyR lv cv n)) W) => hb0.trans (hW.mono hb0.size))
  have hp := hidden (fun W (hW : Below (w.alloc (pbO pbTyR lv cv n)).heap.size (w.alloc (pbO pbTyR lv cv n)) W) => (hpb.below hW (Nat.le_refl _)).cells)
  obtain ⟨la, lc, rfl⟩ := row_slice h.lots
  obtain ⟨ca, cc, rfl⟩ := reads_slice h.caps
  obtain ⟨ta, tc, rfl⟩ := reads_slice hr
  have hx := hidden (fun k hk W (h2 : Below w.heap.size w W) => rowLt_at (h.lots.below ltV_len h2 (Nat.le_refl _)) k hk)
  have ht := hidden (fun k hk W (h2 : Below w.heap.size w W) => (hr.below h2 (Nat.le_refl _)).cell k hk)
  have hlen := h.len
  clear h hr hb0 hpb
  by_cases hok : OkP L C n
  · rw [pbC_ok hok] at hV
    by_cases hl : t.length = L.length
    · have hlb : (((t.length : Nat) : Int) != (L.length : Int)) = false := by rw [hl]; simp
      have hG := hidden (fun (q : tkPart L t L.length) => goodB_yes hok (show TkOk L t from ⟨hl, q⟩))
      have hNo := hidden (fun k hk => @good_out L C n t k hk)
      replace hl := hidden hl
      clear hok
      go_enter Tryd.func23, Tryd.ntmps23
      go_wp2_with fail
      generalize w.alloc (pbO pbTyR (.slice la L.length lc) (.slice ca C.length cc) n) = wP at *
      (with_reducible refine hV.out.mono ?_)
      rintro e w1 ⟨rfl, hb1⟩
      obtain ⟨c0, c1, c2⟩ := hp.out _ hb1
      replace hb1 := hidden hb1
      clear hV
      go_wp2_with fail
      go_loopw [5] (fun i wr => MtRel L t wP i wr) (fun i _ => L.length - (RowKit.intOf i).toNat)
      case atStart => exact ⟨0, Nat.zero_le _, rfl, (fun j hj => by omega), hb1.out⟩
      case round =>
        clear hb1 c0 c1 c2
        obtain ⟨k, hk, rfl, htk, hb3⟩ := hrel
        obtain ⟨c0, c1, c2⟩ := hp.out _ hb3
        by_cases hlt : k < L.length
        · obtain ⟨b, o, rfl, q0, q1, q2, q3⟩ := hx.out k hlt _ (hbx.out _ hb3)
          have hlt2 : k < t.length := by rw [hl.out]; exact hlt
          have hlI : (k : Int) < (L.length : Int) := by omega
          have hlI2 : (k : Int) < (t.length : Int) := by omega
          have hk0 : (0 : Int) ≤ (k : Int) := by omega
          obtain ⟨tb, tof, rfl, ct⟩ := ht.out k hlt2 _ (hbx.out _ hb3)
          have hw := ouB_ways (t.getD k 0) (L.getD k ltZ).u
          have hN := hidden (fun h => tkPart_next htk h)
          have hNo2 := hidden (fun h => hNo.out k hlt h)
          have hbd := hidden (fun m => below_drewN (m := m) hb3)
          have hbe := hidden (fun m => below_drewN (m := m) (hbx.out _ hb3))
          clear htk hx ht hNo hb3 hG
          generalize ouB (t.getD k 0) (L.getD k ltZ).u = B at *
          generalize t.getD k 0 = x at *
          generalize L.getD k ltZ = y at *
          obtain ⟨u, v, c, g⟩ := y
          simp only at q0 q1 q2 q3 hw
          rcases hw with ⟨z1, q⟩ | ⟨z1, z2, q⟩ | ⟨z1, z2, q⟩
          · have hE := hidden (hNo2.out q)
            clear hN hNo2 q
            go_wp2_with fail
            go_quiet (fail)
            go_wp2
            go_ret
            exact ⟨ret_bool hE.out.symm, hbe.out _⟩
          · have hE := hidden (hNo2.out q)
            clear hN hNo2 q
            go_wp2_with fail
            go_quiet (fail)
            go_wp2
            go_ret
            exact ⟨ret_bool hE.out.symm, hbe.out _⟩
          · have hE := hidden (hN.out q)
            clear hN hNo2 q
            go_wp2_with fail
            go_quiet (fail)
            go_wp2
            go_roundw
            case rel => exact ⟨k + 1, hlt, by go_num, hE.out, hbd.out _⟩
            case measure => simp [RowKit.intOf]; omega
        · obtain rfl : k = L.length := by omega
          have hG2 := hidden (hG.out htk)
          have hlI : ¬ (L.length : Int) < (t.length : Int) := by rw [hl.out]; omega
          replace hb3 := hidden (hbx.out _ hb3)
          clear htk hG
          go_wp2
          go_ret
          exact ⟨ret_bool hG2.out.symm, hb3.out⟩
    · have hlb : (((t.length : Nat) : Int) != (L.length : Int)) = true := by rw [bne_iff_ne]; omega
      rw [goodB_no (fun q => hl q.2.1)]
      clear hok hl hx ht
      go_enter Tryd.func23, Tryd.ntmps23
      go_wp2_with fail
      (with_reducible refine hV.out.mono ?_)
      rintro e w1 ⟨rfl, hb1⟩
      obtain ⟨c0, c1, c2⟩ := hp.out _ hb1
      have hb2 := hidden (hbx.out _ hb1)
      clear hV hb1 hp
      go_wp2
      go_ret
      exact ⟨rfl, hb2.out⟩
  · rw [goodB_no (fun q => hok q.1)]
    have hne : (pbC L C n != 0) = true := by rw [bne_iff_ne]; exact fun q => hok (pbC_iff.1 q)
    generalize pbC L C n = c at *
    clear hok hx ht
    go_enter Tryd.func23, Tryd.ntmps23
    go_wp2_with fail
    (with_reducible refine hV.out.mono ?_)
    rintro e w1 ⟨rfl, hb1⟩
    have hb2 := hidden (hbx.out _ hb1)
    clear hV hb1 hp
    go_wp2
    go_ret
    exact ⟨rfl, hb2.out⟩
set_option maxRecDepth 100000 in
set_option maxHeartbeats 6400000 in
theorem r18Cost_any (lv cv : Value) (L : List Lt) (C : List Int) (n : Int) (tv : Value) (t : List Int) (w : World) (h : PbR w lv cv L C) (hr : Reads .i64 w tv t) :
    Calls Tryd.prog 9 #[pbA lv cv n, tv] w fun e w' => e = .returned (.tuple #[.int .i64 (coV L C n t), .bool (goodB L C n t)]) ∧ Below w.heap.size w w' := by
  have hb0 := below_pb w pbTyR lv cv n
  have hM := hidden (r18Right_any lv cv L C n tv t _ (h.below hb0 (Nat.le_refl _)) (hr.below hb0 (Nat.le_refl _)))
  have hpb := pbAt_new w pbTyR lv cv n
  have hbx := hidden (fun W (hW : Below (w.alloc (pbO pbTyR lv cv n)).heap.size (w.alloc (pbO pbTyR lv cv n)) W) => hb0.trans (hW.mono hb0.size))
  have hp := hidden (fun W (hW : Below (w.alloc (pbO pbTyR lv cv n)).heap.size (w.alloc (pbO pbTyR lv cv n)) W) => (hpb.below hW (Nat.le_refl _)).cells)
  obtain ⟨la, lc, rfl⟩ := row_slice h.lots
  obtain ⟨ca, cc, rfl⟩ := reads_slice h.caps
  obtain ⟨ta, tc, rfl⟩ := reads_slice hr
  have hx := hidden (fun k hk W (h2 : Below w.heap.size w W) => rowLt_at (h.lots.below ltV_len h2 (Nat.le_refl _)) k hk)
  have ht := hidden (fun k hk W (h2 : Below w.heap.size w W) => (hr.below h2 (Nat.le_refl _)).cell k hk)
  have hlen := h.len
  clear h hr hb0 hpb
  unfold coV
  cases hB : goodB L C n t
  · rw [hB] at hM
    rw [if_neg (by decide)]
    clear hB hx ht
    go_enter Tryd.func9, Tryd.ntmps9
    go_wp2_with fail
    (with_reducible refine hM.out.mono ?_)
    rintro e w1 ⟨rfl, hb1⟩
    have hb2 := hidden (hbx.out _ hb1)
    clear hM hb1 hp
    go_wp2
    go_ret2
    exact ⟨rfl, hb2.out⟩
  · rw [hB] at hM
    rw [if_pos rfl]
    obtain ⟨hok, htk⟩ := goodB_iff.1 hB
    have hcb := hidden (fun k hk => coS_bd hok htk (k := k) hk)
    have hcf := hidden (fun k hk => coF_bd hok htk (i := k) hk)
    have hl := hidden htk.1
    clear hB hok htk
    go_enter Tryd.func9, Tryd.ntmps9
    go_wp2_with fail
    generalize w.alloc (pbO pbTyR (.slice la L.length lc) (.slice ca C.length cc) n) = wP at *
    (with_reducible refine hM.out.mono ?_)
    rintro e w1 ⟨rfl, hb1⟩
    replace hb1 := hidden hb1
    clear hM
    go_wp2_with fail
    go_loopw [6, 7] (fun s i wr => CoRel L t wP s i wr) (fun _ i _ => L.length - (RowKit.intOf i).toNat)
    case atStart => exact ⟨0, Nat.zero_le _, rfl, rfl, hb1.out⟩
    case round =>
      clear hb1
      obtain ⟨k, hk, rfl, rfl, hb3⟩ := hrel
      obtain ⟨c0, c1, c2⟩ := hp.out _ hb3
      by_cases hlt : k < L.length
      · obtain ⟨b, o, rfl, q0, q1, q2, q3⟩ := hx.out k hlt _ (hbx.out _ hb3)
        have hlt2 : k < t.length := by rw [hl.out]; exact hlt
        have hlI : (k : Int) < (L.length : Int) := by omega
        have hlI2 : (k : Int) < (t.length : Int) := by omega
        have hk0 : (0 : Int) ≤ (k : Int) := by omega
        obtain ⟨tb, tof, rfl, ct⟩ := ht.out k hlt2 _ (hbx.out _ hb3)
        have hbd := hidden (fun m => below_drewN (m := m) hb3)
        have h1 := hcb.out k hk
        have h2 := hcf.out k hlt
        have hst := hidden (show sumF (coF L t) (k + 1) = sumF (coF L t) k + coF L t k from rfl)
        have hwm : IntKind.i64.wrap (t.getD k 0 * (L.getD k ltZ).c) = coF L t k := by
          rw [show t.getD k 0 * (L.getD k ltZ).c = coF L t k from rfl, IntKind.wrap_i64]; omega
        have hws : IntKind.i64.wrap (sumF (coF L t) k + coF L t k) = sumF (coF L t) k + coF L t k := by rw [IntKind.wrap_i64]; omega
        clear hcb hcf hx ht hb3
        generalize coF L t k = f at *
        generalize sumF (coF L t) k = S at *
        generalize t.getD k 0 = x at *
        generalize L.getD k ltZ = y at *
        obtain ⟨u, v, c, gg⟩ := y
        simp only at q0 q1 q2 q3 hwm
        go_wp2_with fail
        go_quiet (fail)
        go_wp2
        go_roundw
        case rel => exact ⟨k + 1, hlt, by go_num, by rw [hst.out], hbd.out _⟩
        case measure => simp [RowKit.intOf]; omega
      · obtain rfl : k = L.length := by omega
        have hlI : ¬ (L.length : Int) < (t.length : Int) := by rw [hl.out]; omega
        replace hb3 := hidden (hbx.out _ hb3)
        go_wp2
        go_ret2
        exact ⟨rfl, hb3.out⟩
def FuRel (F : List Int) (w0 : World) (v i : Value) (w : World) : Prop := ∃ k : Nat, k ≤ F.length ∧ i = .int .i64 (k : Int) ∧ w.ownsRow w0.heap.size 3 1 v k (ivs (F.take k)) ∧ Below w0.heap.size w0 w
end Go.Proofs.YtmihpgccdknhfaaDoor
namespace Go.Proofs.YtmihpgccdknhfaaDoor
open Go.RowKit
set_option linter.unusedVariables false

def RwRel1 (L : List Lt) (C t : List Int) (w0 : World) (s g : Value) (w : World) : Prop := ∃ k : Nat, k ≤ C.length ∧ g = .int .i64 (k : Int) ∧ s = .int .i64 (sumF (woF L C t) k) ∧ Below w0.heap.size w0 w
def RwRel2 (L : List Lt) (t : List Int) (g : Int) (w0 : World) (s i : Value) (w : World) : Prop := ∃ j : Nat, j ≤ L.length ∧ i = .int .i64 (j : Int) ∧ s = .int .i64 (gs L t g j) ∧ Below w0.heap.size w0 w
theorem gs_skip (L : List Lt) (t : List Int) (g : Int) (k : Nat) (h : (L.getD k ltZ).g ≠ g) : gs L t g (k + 1) = gs L t g k := by
  show gs L t g k + gsF L t g k = _
  unfold gsF
  rw [if_neg h, Int.add_zero]
set_option maxRecDepth 100000 in
set_option maxHeartbeats 12800000 in
theorem r18Worth_any (lv cv : Value) (L : List Lt) (C : List Int) (n : Int) (tv : Value) (t : List Int) (w : World) (h : PbR w lv cv L C) (hr : Reads .i64 w tv t) :
    Calls Tryd.prog 8 #[pbA lv cv n, tv] w fun e w' => e = .returned (.tuple #[.int .i64 (woV L C n t), .bool (goodB L C n t)]) ∧ Below w.heap.size w w' := by
  have hb0 := below_pb w pbTyR lv cv n
  have hM := hidden (r18Right_any lv cv L C n tv t _ (h.below hb0 (Nat.le_refl _)) (hr.below hb0 (Nat.le_refl _)))
  have hpb := pbAt_new w pbTyR lv cv n
  have hbx := hidden (fun W (hW : Below (w.alloc (pbO pbTyR lv cv n)).heap.size (w.alloc (pbO pbTyR lv cv n)) W) => hb0.trans (hW.mono hb0.size))
  have hp := hidden (fun W (hW : Below (w.alloc (pbO pbTyR lv cv n)).heap.size (w.alloc (pbO pbTyR lv cv n)) W) => (hpb.below hW (Nat.le_refl _)).cells)
  obtain ⟨la, lc, rfl⟩ := row_slice h.lots
  obtain ⟨ca, cc, rfl⟩ := reads_slice h.caps
  obtain ⟨ta, tc, rfl⟩ := reads_slice hr
  have hx := hidden (fun k hk W (h2 : Below w.heap.size w W) => rowLt_at (h.lots.below ltV_len h2 (Nat.le_refl _)) k hk)
  have ht := hidden (fun k hk W (h2 : Below w.heap.size w W) => (hr.below h2 (Nat.le_refl _)).cell k hk)
  have hy := hidden (fun k hk W (h2 : Below w.heap.size w W) => (h.caps.below h2 (Nat.le_refl _)).cell k hk)
  have hlen := h.len
  clear h hr hb0 hpb
  unfold woV
  cases hB : goodB L C n t
  · rw [hB] at hM
    rw [if_neg (by decide)]
    clear hB hx ht hy
    go_enter Tryd.func8, Tryd.ntmps8
    go_wp2_with fail
    (with_reducible refine hM.out.mono ?_)
    rintro e w1 ⟨rfl, hb1⟩
    have hb2 := hidden (hbx.out _ hb1)
    clear hM hb1 hp
    go_wp2
    go_ret2
    exact ⟨rfl, hb2.out⟩
  · rw [hB] at hM
    rw [if_pos rfl]
    obtain ⟨hok, htk⟩ := goodB_iff.1 hB
    have hl := hidden htk.1
    have hlb := hidden (fun k hk => hok.lot (k := k) hk)
    have hcb := hidden (fun k hk => hok.cap (k := k) hk)
    have htb := hidden (fun k hk => htk.2 k hk)
    have hgb := hidden (fun g k hk => gs_bd hok htk g (k := k) hk)
    have hwb := hidden (fun k hk => woS_bd hok htk (k := k) hk)
    have hwf := hidden (fun j hj => woF_bd hok htk (j := j) hj)
    have hC8 : C.length ≤ 8 := hok.1.2.2
    clear hB hok htk
    go_enter Tryd.func8, Tryd.ntmps8
    go_wp2_with fail
    generalize w.alloc (pbO pbTyR (.slice la L.length lc) (.slice ca C.length cc) n) = wP at *
    (with_reducible refine hM.out.mono ?_)
    rintro e w1 ⟨rfl, hb1⟩
    replace hb1 := hidden hb1
    clear hM
    go_wp2_with fail
    go_loopw [6, 7] (fun s g wr => RwRel1 L C t wP s g wr) (fun _ g _ => C.length - (RowKit.intOf g).toNat)
    case atStart => exact ⟨0, Nat.zero_le _, rfl, rfl, hb1.out⟩
    case round =>
      clear hb1
      obtain ⟨k, hk, rfl, rfl, hb3⟩ := hrel
      obtain ⟨c0, c1, c2⟩ := hp.out _ hb3
      by_cases hlt : k < C.length
      · have hkI : (k : Int) < (C.length : Int) := by omega
        have hw1 := hwb.out k hk
        have hw2 := hwf.out k hlt
        have hnx := hidden (show sumF (woF L C t) (k + 1) = sumF (woF L C t) k + woF L C t k from rfl)
        have hcap := hcb.out k hlt
        have hways := hidden (woF_ways L C t k hcap.1)
        have hg1 := hgb.out (k : Int) L.length (Nat.le_refl _)
        have hcap1 := hcap.1
        have hcap2 := hcap.2
        have hws : IntKind.i64.wrap (sumF (woF L C t) k + woF L C t k) = sumF (woF L C t) k + woF L C t k := by rw [IntKind.wrap_i64]; omega
        generalize woF L C t k = f at *
        generalize sumF (woF L C t) k = S at *
        replace hb3 := hidden hb3
        clear hwb hwf hcap
        go_wp2_with fail
        go_loopw [8, 9] (fun s i wr => RwRel2 L t (k : Int) wP s i wr) (fun _ i _ => L.length - (RowKit.intOf i).toNat)
        case atStart => exact ⟨0, Nat.zero_le _, rfl, rfl, hb3.out⟩
        case round =>
          clear hb3 c0 c1 c2
          obtain ⟨j, hj, rfl, rfl, hb4⟩ := hrel
          obtain ⟨c0, c1, c2⟩ := hp.out _ hb4
          by_cases hjl : j < L.length
          · obtain ⟨b, o, rfl, q0, q1, q2, q3⟩ := hx.out j hjl _ (hbx.out _ hb4)
            have hjl2 : j < t.length := by rw [hl.out]; exact hjl
            have hlI : (j : Int) < (L.length : Int) := by omega
            have hlI2 : (j : Int) < (t.length : Int) := by omega
            have hj0 : (0 : Int) ≤ (j : Int) := by omega
            obtain ⟨tb, tof, rfl, ct⟩ := ht.out j hjl2 _ (hbx.out _ hb4)
            have hbd := hidden (fun m => below_drewN (m := m) hb4)
            have hlo := hlb.out j hjl
            have hto := htb.out j hjl
            have g1 := hgb.out (k : Int) j hj
            have g2 := hgb.out (k : Int) (j + 1) hjl
            have hlo1 := hlo.1
            have hlo2 := hlo.2.1
            clear hways hnx hws hg1 hcap1 hcap2 hw1 hw2 hgb hlb htb hcb hx ht hy
            by_cases hg : (L.getD j ltZ).g = (k : Int)
            · have hst := hidden (gs_step L t (k : Int) j hg)
              rw [hst.out] at g2
              have hpr := prod_bd (a := t.getD j 0) (A := 1000) (b := (L.getD j ltZ).v) (B := 1000000000) hto.1 (by omega) hlo2.1 hlo2.2
              obtain ⟨m, hm⟩ : ∃ m, m = t.getD j 0 * (L.getD j ltZ).v := ⟨_, rfl⟩
              rw [← hm] at hpr g2 hst
              have hwm : IntKind.i64.wrap (t.getD j 0 * (L.getD j ltZ).v) = m := by rw [← hm, IntKind.wrap_i64]; omega
              have hws : IntKind.i64.wrap (gs L t (k : Int) j + m) = gs L t (k : Int) j + m := by rw [IntKind.wrap_i64]; omega
              have hgB : ((L.getD j ltZ).g == (k : Int)) = true := by rw [beq_iff_eq]; exact hg
              clear hm hlo hto hlo1 hlo2 hg
              generalize gs L t (k : Int) j = G at *
              generalize t.getD j 0 = x at *
              generalize L.getD j ltZ = y at *
              obtain ⟨u, v, c, gg⟩ := y
              simp only at q0 q1 q2 q3 hwm hpr hgB
              replace hb4 := hidden hb4
              go_wp2_with fail
              go_quiet (fail)
              go_wp2
              go_roundw
              case rel => exact ⟨j + 1, hjl, by go_num, by rw [hst.out], hbd.out _⟩
              case measure => simp [RowKit.intOf]; omega
            · have hst := hidden (gs_skip L t (k : Int) j hg)
              have hgB : ((L.getD j ltZ).g == (k : Int)) = false := by rw [beq_eq_false_iff_ne]; exact hg
              clear hlo hto hlo1 hlo2 hg
              generalize gs L t (k : Int) j = G at *
              generalize t.getD j 0 = x at *
              generalize L.getD j ltZ = y at *
              obtain ⟨u, v, c, gg⟩ := y
              simp only at q0 q1 q2 q3 hgB
              replace hb4 := hidden hb4
              go_wp2
              go_roundw
              case rel => exact ⟨j + 1, hjl, by go_num, by rw [hst.out], hb4.out⟩
              case measure => simp [RowKit.intOf]; omega
          · obtain rfl : j = L.length := by omega
            have hlI : ¬ (L.length : Int) < (t.length : Int) := by rw [hl.out]; omega
            obtain ⟨bc, oc, rfl, cc0⟩ := hy.out k hlt _ (hbx.out _ hb4)
            replace hb4 := hidden hb4
            have hk0 : (0 : Int) ≤ (k : Int) := by omega
            clear hlb htb hgb hcb hx ht hy
            generalize gs L t (k : Int) L.length = G at *
            generalize C.getD k 0 = c at *
            rcases hways.out with ⟨z1, z2⟩ | ⟨z1, z2, z3⟩ | ⟨z1, z2, z3⟩
            · have d1 : decide (0 < c) = false := decide_eq_false (by omega)
              subst z2
              clear hways z1
              go_wp2
              go_roundw
              case rel => exact ⟨k + 1, hlt, by go_num, by rw [hnx.out], hb4.out⟩
              case measure => simp [RowKit.intOf]; omega
            · have d1 : decide (0 < c) = true := decide_eq_true (by omega)
              have d2 : decide (c < G) = false := decide_eq_false (by omega)
              subst z3
              clear hways z1 z2
              go_wp2
              go_roundw
              case rel => exact ⟨k + 1, hlt, by go_num, by rw [hnx.out], hb4.out⟩
              case measure => simp [RowKit.intOf]; omega
            · have d1 : decide (0 < c) = true := decide_eq_true (by omega)
              have d2 : decide (c < G) = true := decide_eq_true (by omega)
              subst z3
              clear hways z1 z2
              go_wp2
              go_roundw
              case rel => exact ⟨k + 1, hlt, by go_num, by rw [hnx.out], hb4.out⟩
              case measure => simp [RowKit.intOf]; omega
      · obtain rfl : k = C.length := by omega
        replace hb3 := hidden (hbx.out _ hb3)
        go_wp2
        go_ret2
        exact ⟨rfl, hb3.out⟩
set_option maxRecDepth 100000 in
set_option maxHeartbeats 6400000 in
theorem r18Fits_any (lv cv : Value) (L : List Lt) (C : List Int) (n : Int) (tv : Value) (t : List Int) (w : World) (h : PbR w lv cv L C) (hr : Reads .i64 w tv t) :
    Calls Tryd.prog 15 #[pbA lv cv n, tv] w fun e w' => e = .returned (.bool (fiB L C n t)) ∧ Below w.heap.size w w' := by
  have hb0 := below_pb w pbTyR lv cv n
  have hpb := pbAt_new w pbTyR lv cv n
  have hp := hidden (fun W (hW : Below (w.alloc (pbO pbTyR lv cv n)).heap.size (w.alloc (pbO pbTyR lv cv n)) W) => (hpb.below hW (Nat.le_refl _)).cells)
  have hM := hidden (r18Worth_any lv cv L C n tv t _ (h.below hb0 (Nat.le_refl _)) (hr.below hb0 (Nat.le_refl _)))
  have hb := hidden hb0
  obtain ⟨la, lc, rfl⟩ := row_slice h.lots
  obtain ⟨ca, cc, rfl⟩ := reads_slice h.caps
  obtain ⟨ta, tc, rfl⟩ := reads_slice hr
  clear h hr hb0 hpb
  unfold fiB
  generalize goodB L C n t = B at *
  generalize woV L C n t = x at *
  cases B
  all_goals
    go_enter Tryd.func15, Tryd.ntmps15
    go_wp2_with fail
    (with_reducible refine hM.out.mono ?_)
    rintro e w1 ⟨rfl, hb1⟩
    obtain ⟨c0, c1, c2⟩ := hp.out _ hb1
    have hb2 := hidden (hb.out.trans (hb1.mono hb.out.size))
    clear hM hb1 hp
    go_wp2
    go_ret
    exact ⟨ret_bool (by simp), hb2.out⟩
end Go.Proofs.YtmihpgccdknhfaaDoor
namespace Go.Proofs.YtmihpgccdknhfaaDoor
open Go.RowKit
set_option linter.unusedVariables false

theorem cmpv_pos (x y : Int) : 0 < cmpv x y ↔ y < x := by
  unfold cmpv
  split
  · omega
  · split <;> omega
set_option maxHeartbeats 1600000 in
theorem r18Dear_any (a b : Lt) (w : World) (ha : ltBig a) (hb : ltBig b) :
    Calls Tryd.prog 47 #[ltA a, ltA b] w fun e w' => e = .returned (.bool (dear a b)) ∧ Below w.heap.size w w' := by
  have hb0 := hidden ((below_lt w a).trans ((below_lt (w.alloc (ltO a)) b).mono (by simp)) : Below w.heap.size w ((w.alloc (ltO a)).alloc (ltO b)))
  unfold ltBig at ha hb
  have hC := hidden (fun W => refCmp_any a.c b.v b.c a.v W (by omega) (by omega) (by omega) (by omega) (by omega) (by omega) (by omega) (by omega))
  have hpos := hidden (cmpv_pos (a.c * b.v) (b.c * a.v))
  generalize cmpv (a.c * b.v) (b.c * a.v) = q at *
  by_cases h1 : a.v = 0
  · by_cases h2 : b.v = 0
    · have hd := hidden (show dear a b = false by unfold dear; rw [if_pos (.inl h1), decide_eq_false_iff_not]; exact fun z => z.2 h2)
      obtain ⟨au, av, ac, ag⟩ := a
      obtain ⟨bu, bv, bc, bg⟩ := b
      simp only at h1 h2
      subst h1
      subst h2
      clear hC
      go_enter Tryd.func47, Tryd.ntmps47
      go_wp2
      go_ret
      exact ⟨ret_bool hd.out.symm, hb0.out⟩
    · have hd := hidden (show dear a b = true by unfold dear; rw [if_pos (.inl h1), decide_eq_true_iff]; exact ⟨h1, h2⟩)
      have n2 : (b.v != 0) = true := by rw [bne_iff_ne]; exact h2
      obtain ⟨au, av, ac, ag⟩ := a
      obtain ⟨bu, bv, bc, bg⟩ := b
      simp only at h1 n2
      subst h1
      clear hC h2
      go_enter Tryd.func47, Tryd.ntmps47
      go_wp2
      go_ret
      exact ⟨ret_bool hd.out.symm, hb0.out⟩
  · have n1 : (a.v == 0) = false := by rw [beq_eq_false_iff_ne]; exact h1
    by_cases h2 : b.v = 0
    · have hd := hidden (show dear a b = false by unfold dear; rw [if_pos (.inr h2), decide_eq_false_iff_not]; exact fun z => h1 z.1)
      obtain ⟨au, av, ac, ag⟩ := a
      obtain ⟨bu, bv, bc, bg⟩ := b
      simp only at n1 h2
      subst h2
      clear hC h1
      go_enter Tryd.func47, Tryd.ntmps47
      go_wp2
      go_ret
      exact ⟨ret_bool hd.out.symm, hb0.out⟩
    · have hd := hidden (show dear a b = decide (0 < q) by
        unfold dear
        rw [if_neg (by intro z; rcases z with z | z; exact h1 z; exact h2 z), Bool.eq_iff_iff, decide_eq_true_iff, decide_eq_true_iff]
        exact hpos.out.symm)
      have n2 : (b.v == 0) = false := by rw [beq_eq_false_iff_ne]; exact h2
      obtain ⟨au, av, ac, ag⟩ := a
      obtain ⟨bu, bv, bc, bg⟩ := b
      simp only at n1 n2 hC
      clear h1 h2 hpos
      go_enter Tryd.func47, Tryd.ntmps47
      go_wp2_with (go_at_call 67; (with_reducible refine (hC.out _).mono ?_); rintro e w' ⟨rfl, rfl⟩)
      go_ret
      exact ⟨ret_bool hd.out.symm, hb0.out⟩
/-- 'l[k:]' of numbers. -/
theorem reads_from18 {k : IntKind} {w : World} {a : Option Addr} {n c m : Nat} {xs : List Int} (h : Reads k w (.slice a n c) xs) (hm : m ≤ n) :
    (c = m → Reads k w (.slice a (n - m) (c - m)) (xs.drop m)) ∧ (∀ b o, a = some ⟨b, o, none⟩ → Reads k w (.slice (some ⟨b, o + m, none⟩) (n - m) (c - m)) (xs.drop m)) := by
  obtain ⟨a', len, cap, e, h1, h2, h3, h4, h5⟩ := h
  simp only [Value.slice.injEq] at e
  obtain ⟨rfl, rfl, rfl⟩ := e
  refine ⟨fun hc => ⟨a, n - m, c - m, rfl, by simp; omega, by omega, by omega, fun _ => by omega, fun ad had i hi => by omega⟩, fun b o ha => ⟨_, n - m, c - m, rfl, by simp; omega, by omega, by omega, (fun z => by cases z), fun ad had i hi => ?_⟩⟩
  obtain rfl := Option.some.inj had
  obtain ⟨_, h7⟩ := h5 _ ha (m + i) (by omega)
  refine ⟨rfl, ?_⟩
  simp only at h7 ⊢
  rw [Nat.add_assoc, h7]
  simp [List.getD_eq_getElem?_getD, List.getElem?_drop]
theorem nats_take (l : List Nat) (k : Nat) : (nats l).take k = nats (l.take k) := by unfold nats; rw [List.map_take]
theorem nats_drop (l : List Nat) (k : Nat) : (nats l).drop k = nats (l.drop k) := by unfold nats; rw [List.map_drop]
theorem ins_row (L : List Lt) (k j : Nat) (h : insAt L (ordTo L k) k k = j) : ivs ((nats (ordTo L k)).take j) ++ Value.int .i64 (k : Int) :: ((nats (ordTo L k)).drop j).map (Value.int .i64) = ivs (nats (ordTo L (k + 1))) := by
  show _ = ivs (nats (ins L (ordTo L k) k))
  unfold ins
  rw [ordTo_len, h, nats_take, nats_drop]
  simp [ivs, nats]
theorem own_shape18 {w : World} {base : Nat} {e : TypeId} {v : Value} {n : Nat} {xs : List Value} (h : w.ownsRow base e 1 v n xs) : ∃ a c, v = .slice a n c ∧ ((a = none ∧ n = 0 ∧ c = 0) ∨ ∃ g, a = some ⟨g, 0, none⟩) := by
  rcases h.2 with ⟨rfl, rfl⟩ | ⟨g, cap, cur, rfl, _⟩
  · exact ⟨_, _, rfl, .inl ⟨rfl, rfl, rfl⟩⟩
  · exact ⟨_, _, rfl, .inr ⟨g, rfl⟩⟩
theorem own_len18 {w : World} {base : Nat} {e : TypeId} {v : Value} {n m : Nat} {xs ys : List Value} (h : w.ownsRow base e 1 v n xs) (hn : n = m) (hx : xs = ys) : w.ownsRow base e 1 v m ys := by
  subst hn
  subst hx
  exact h
def OrRel18 (L : List Lt) (w0 : World) (v i : Value) (w : World) : Prop := ∃ k : Nat, k ≤ L.length ∧ i = .int .i64 (k : Int) ∧ w.ownsRow w0.heap.size 3 1 v k (ivs (nats (ordTo L k))) ∧ Below w0.heap.size w0 w
def OiRel18 (L : List Lt) (k : Nat) (w0 : World) (i : Value) (w : World) : Prop := ∃ j : Nat, j ≤ k ∧ i = .int .i64 (j : Int) ∧ insAt L (ordTo L k) k k = insAt L (ordTo L k) k j ∧ Below w0.heap.size w0 w
abbrev OrS (w0 : World) (b o q p r : Nat) (x : Int) (y z : Lt) (W : World) : Prop :=
  W.cell? ⟨b, o, none⟩ = some (.int .i64 x) ∧ (W.cell? ⟨q, p, none⟩ = some (.int .i64 y.u) ∧ W.cell? ⟨q, p + 1, none⟩ = some (.int .i64 y.v) ∧ W.cell? ⟨q, p + 2, none⟩ = some (.int .i64 y.c) ∧ W.cell? ⟨q, p + 3, none⟩ = some (.int .i64 y.g)) ∧
    (W.cell? ⟨q, r, none⟩ = some (.int .i64 z.u) ∧ W.cell? ⟨q, r + 1, none⟩ = some (.int .i64 z.v) ∧ W.cell? ⟨q, r + 2, none⟩ = some (.int .i64 z.c) ∧ W.cell? ⟨q, r + 3, none⟩ = some (.int .i64 z.g)) ∧ Below w0.heap.size w0 W
theorem orS_drew {w0 W : World} {b o q p r : Nat} {x : Int} {y z : Lt} (h : OrS w0 b o q p r x y z W) : OrS w0 b o q p r x y z W.drew := ⟨h.1, h.2.1, h.2.2.1, h.2.2.2.drew⟩
theorem orS_next {w0 W W' : World} {b o q p r : Nat} {x : Int} {y z : Lt} (h : OrS w0 b o q p r x y z W) (hb : Below W.heap.size W W') : OrS w0 b o q p r x y z W' := by
  refine ⟨?_, lotAt_below h.2.1 hb, lotAt_below h.2.2.1 hb, h.2.2.2.trans (hb.mono h.2.2.2.size)⟩
  rw [World.cell?_of_block (w := W) (hb.block _ (World.block_lt_of_cell? W _ h.1))]; exact h.1
end Go.Proofs.YtmihpgccdknhfaaDoor
namespace Go.Proofs.YtmihpgccdknhfaaDoor
open Go.RowKit
set_option linter.unusedVariables false

theorem r18Worth_ok (lv cv : Value) (L : List Lt) (C : List Int) (n : Int) (tv : Value) (t : List Int) (w : World) (h : PbR w lv cv L C) (hr : Reads .i64 w tv t) (hok : OkP L C n) (ht : TkOk L t) :
    Calls Tryd.prog 8 #[pbA lv cv n, tv] w fun e w' => e = .returned (.tuple #[.int .i64 (wo L C t), .bool true]) ∧ Below w.heap.size w w' := by
  have h1 := r18Worth_any lv cv L C n tv t w h hr
  unfold woV at h1
  rw [goodB_yes hok ht, if_pos rfl] at h1
  exact h1
structure GqAt (w0 : World) (T : TypeId) (p tg og : Nat) (lv cv : Value) (n : Int) (t : List Int) (o : List Nat) (N cp : Nat) (w : World) : Prop where
  pb : PbAt w p T lv cv n
  tk : NumAt inTy w tg t
  od : Reads .i64 w (.slice (some ⟨og, 0, none⟩) N cp) (nats o)
  low : Below w0.heap.size w0 w
  ne1 : p ≠ tg
  ne2 : og ≠ tg
  hi : w0.heap.size ≤ tg
section
variable {w0 w w' : World} {T : TypeId} {p tg og : Nat} {lv cv : Value} {n : Int} {t : List Int} {o : List Nat} {N cp : Nat}
theorem GqAt.below (h : GqAt w0 T p tg og lv cv n t o N cp w) (hb : Below w.heap.size w w') : GqAt w0 T p tg og lv cv n t o N cp w' :=
  ⟨h.pb.below hb (Nat.le_refl _), h.tk.below hb (Nat.le_refl _), h.od.below hb (Nat.le_refl _), h.low.trans (hb.mono h.low.size), h.ne1, h.ne2, h.hi⟩
theorem GqAt.drewN (h : GqAt w0 T p tg og lv cv n t o N cp w) (k : Nat) : GqAt w0 T p tg og lv cv n t o N cp (w.drewN k) :=
  ⟨⟨h.pb.row⟩, h.tk, h.od.same fun _ _ => rfl, below_drewN h.low, h.ne1, h.ne2, h.hi⟩
theorem GqAt.put (h : GqAt w0 T p tg og lv cv n t o N cp w) (i : Nat) (x : Int) : GqAt w0 T p tg og lv cv n (t.set i x) o N cp (w.setCell ⟨tg, i, none⟩ (.int .i64 x)) :=
  ⟨⟨by rw [(Trd.setCell (S := (· = tg)) w ⟨tg, i, none⟩ (.int .i64 x) rfl).block p h.pb.lt h.ne1]; exact h.pb.row⟩, h.tk.set i x,
    h.od.trd (Trd.setCell (S := (· = tg)) w ⟨tg, i, none⟩ (.int .i64 x) rfl) (fun b hb => by
      have : og = b := by simpa [Value.ownBlock] using hb
      rw [← this]; exact h.ne2), h.low.setCell (p := ⟨tg, i, none⟩) h.hi _, h.ne1, h.ne2, h.hi⟩
end
def GqRel1 (L : List Lt) (C : List Int) (w0 : World) (p tg og : Nat) (lv cv : Value) (n : Int) (o : List Nat) (N cp : Nat) (i h : Value) (w : World) : Prop :=
  ∃ (k : Nat) (s : List Int × Int), k ≤ o.length ∧ i = .int .i64 (k : Int) ∧ h = .int .i64 s.2 ∧ gAll L C n (o.drop k) s = gR L C n ∧ GInv L C n s ∧ GqAt w0 pbTyR p tg og lv cv n s.1 o N cp w
def GqRel2 (L : List Lt) (C : List Int) (w0 : World) (p tg og : Nat) (lv cv : Value) (n : Int) (o : List Nat) (N cp : Nat) (i : Nat) (s0 : List Int × Int) (h : Value) (w : World) : Prop :=
  ∃ (f : Nat) (s : List Int × Int), h = .int .i64 s.2 ∧ (L.getD i ltZ).u - s.1.getD i 0 ≤ (f : Int) ∧ gl L C n i f s = s0 ∧ GInv L C n s ∧ GqAt w0 pbTyR p tg og lv cv n s.1 o N cp w
end Go.Proofs.YtmihpgccdknhfaaDoor
