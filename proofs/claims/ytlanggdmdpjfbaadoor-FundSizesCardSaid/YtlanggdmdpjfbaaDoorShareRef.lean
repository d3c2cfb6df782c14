/-
  The document's own amount, over, above, Floor.
  The document's own Split.
-/
import Derived.Test.YtlanggdmdpjfbaaDoorShare5
import Derived.Test.YtlanggdmdpjfbaaDoorRefFix
namespace Go.Proofs.YtlanggdmdpjfbaaDoor
open Go Go.RowKit
set_option linter.unusedVariables false

theorem refAmt_any23 (n : Int) (w : World) : Calls Tryd.prog 24 #[.int .i64 n] w fun e w' => e = .returned (.bool (decide (am23 n))) ∧ w = w' := by
  rcases am23_ways n with ⟨t1, q⟩ | ⟨t1, t2, q⟩ | ⟨t1, t2, q⟩
  all_goals
    replace q := hidden q
    go_enter Tryd.func24, Tryd.ntmps24
    go_wp2
    go_ret
    exact ⟨ret_bool q.out.symm, rfl⟩
set_option maxHeartbeats 3200000 in
theorem refFloor_any23 (W x S : Int) (w : World) (hW : -9223372036854775808 ≤ W) (hW2 : W ≤ 9223372036854775807) (hx : -9223372036854775808 ≤ x) (hx2 : x ≤ 9223372036854775807) (hS : S ≤ 9223372036854775807) :
    Calls Tryd.prog 38 #[.int .i64 W, .int .i64 x, .int .i64 S] w fun e w' => e = .returned (.tuple #[.int .i64 (floV W x S), .int .i64 (floC W x S)]) ∧ w = w' := by
  have hQ := hidden (fun n => refAmt_any23 n w)
  rcases fl_ways W x S with ⟨t1, q⟩ | ⟨t1, t2, q⟩ | ⟨t1, t2, t3, q⟩ | ⟨t1, t2, t3, t4, q⟩ | ⟨t1, t2, t3, t4, t5, q⟩ | ⟨t1, t2, t3, t4, t5, q⟩
  iterate 5
    · have hr1 := hidden (show (0 : Int) = floV W x S by unfold floV; rw [if_neg q])
      have hr2 := hidden (show (103 : Int) = floC W x S by unfold floC; rw [if_neg q])
      clear q
      go_enter Tryd.func38, Tryd.ntmps38
      go_wp2_with (go_at_call 24; refine (hQ.out _).mono ?_; rintro e w' ⟨rfl, rfl⟩)
      go_ret2
      exact ⟨ret_ii hr1.out hr2.out, rfl⟩
  · have hr1 := hidden (show W * x / S = floV W x S by unfold floV; rw [if_pos q])
    have hr2 := hidden (show (0 : Int) = floC W x S by unfold floC; rw [if_pos q])
    obtain ⟨q1, q2, q3, q4, q5⟩ := q
    have hD := hidden (refDiv_any W x S false w hW hW2 hx hx2 hS)
    rw [(part_ok q1 q2.1 q4 (by have := q3.1; omega)).2] at hD
    clear q1 q2 q3 q4 q5
    go_enter Tryd.func38, Tryd.ntmps38
    go_wp2_with (first | (go_at_call 24; refine (hQ.out _).mono ?_; rintro e w' ⟨rfl, rfl⟩) | (go_at_call 49; refine hD.out.mono ?_; rintro e w' ⟨rfl, rfl⟩))
    go_ret2
    exact ⟨ret_ii hr1.out hr2.out, rfl⟩
/-- over: the rest. -/
theorem refOver_any23 (W x f S r : Int) (w : World) (hW : 0 ≤ W) (hW2 : W ≤ 1000000000000000) (hx : 0 ≤ x) (hx2 : x ≤ 1000000000000000) (hf : 0 ≤ f) (hf2 : f ≤ 1000000000000000) (hS : 0 ≤ S) (hS2 : S ≤ 1000000000000000) (h : W * x - f * S = r) (hr : 0 ≤ r) (hr2 : r ≤ 1000000000000000) :
    Calls Tryd.prog 50 #[.int .i64 W, .int .i64 x, .int .i64 f, .int .i64 S] w fun e w' => e = .returned (.int .i64 r) ∧ w = w' := by
  have u1 : IntKind.u64.wrap W = W := by rw [IntKind.wrap_u64]; omega
  have u2 : IntKind.u64.wrap x = x := by rw [IntKind.wrap_u64]; omega
  have u3 : IntKind.u64.wrap f = f := by rw [IntKind.wrap_u64]; omega
  have u4 : IntKind.u64.wrap S = S := by rw [IntKind.wrap_u64]; omega
  have h1 : IntKind.u64.wrap (IntKind.u64.wrap (W * x) - IntKind.u64.wrap (f * S)) = r := by
    generalize W * x = y at *
    generalize f * S = z at *
    rw [IntKind.wrap_u64, IntKind.wrap_u64, IntKind.wrap_u64]
    omega
  have h2 : IntKind.i64.wrap r = r := by rw [IntKind.wrap_i64]; omega
  have h3 := hidden (show wrap64 r = r from by unfold wrap64; omega)
  clear h
  go_enter Tryd.func50, Tryd.ntmps50
  go_wp2
  go_ret
  exact ⟨rfl, rfl⟩
end Go.Proofs.YtlanggdmdpjfbaaDoor
namespace Go.Proofs.YtlanggdmdpjfbaaDoor
open Go Go.RowKit
set_option linter.unusedVariables false

theorem refAbove_any23 (W x f S y g r s : Int) (w : World) (h1 : ∀ W', Calls Tryd.prog 50 #[.int .i64 W, .int .i64 x, .int .i64 f, .int .i64 S] W' fun e w' => e = .returned (.int .i64 r) ∧ W' = w') (h2 : ∀ W', Calls Tryd.prog 50 #[.int .i64 W, .int .i64 y, .int .i64 g, .int .i64 S] W' fun e w' => e = .returned (.int .i64 s) ∧ W' = w') :
    Calls Tryd.prog 39 #[.int .i64 W, .int .i64 x, .int .i64 f, .int .i64 S, .int .i64 y, .int .i64 g] w fun e w' => e = .returned (.bool (decide (s < r))) ∧ w' = w := by
  replace h1 := hidden h1
  replace h2 := hidden h2
  go_enter Tryd.func39, Tryd.ntmps39
  go_wp2_with fail
  refine (h1.out _).mono ?_
  rintro e w1 ⟨rfl, rfl⟩
  go_wp2_with fail
  refine (h2.out _).mono ?_
  rintro e w2 ⟨rfl, rfl⟩
  go_wp2
  go_ret
  exact ⟨rfl, rfl⟩

/-! A row of Booleans, a block's own. -/
def Bo23 (T : TypeId) (w : World) (g : Nat) (l : List Bool) : Prop := w.heap[g]? = some (.cells (l.map Value.bool).toArray T (0, 0))
section
variable {T : TypeId} {w w' : World} {g : Nat} {l : List Bool}
theorem Bo23.cell (h : Bo23 T w g l) {i : Nat} (hi : i < l.length) : w.cell? ⟨g, i, none⟩ = some (.bool (l.getD i false)) := by
  rw [cell_of_row _ _ _ _ _ _ h, List.getElem?_toArray, List.getElem?_map, List.getD_eq_getElem?_getD, List.getElem?_eq_getElem hi]
  rfl
theorem Bo23.frozen (h : Bo23 T w g l) (i : Nat) : w.frozen? ⟨g, i, none⟩ = false := by
  have := h
  unfold Bo23 at this
  simp [World.frozen?, this]
theorem Bo23.set (h : Bo23 T w g l) (i : Nat) (x : Bool) : Bo23 T (w.setCell ⟨g, i, none⟩ (.bool x)) g (l.set i x) := by
  unfold Bo23
  rw [heap_setCell_row h]
  simp
theorem Bo23.lt (h : Bo23 T w g l) : g < w.heap.size := (Array.getElem?_eq_some_iff.1 h).1
theorem Bo23.drewN (h : Bo23 T w g l) (k : Nat) : Bo23 T (w.drewN k) g l := h
theorem Bo23.other {b o : Nat} {v : Value} (h : Bo23 T w g l) (hn : g ≠ b) : Bo23 T (w.setCell ⟨b, o, none⟩ v) g l := by
  unfold Bo23
  rw [Below.heap_setCell _ _ _ _ (by exact hn)]
  exact h
theorem Bo23.new (T : TypeId) (w : World) (n : Nat) : Bo23 T (w.alloc (.cells (Array.replicate n (.bool false)) T)) w.heap.size (List.replicate n false) := by
  unfold Bo23
  rw [heap_alloc_new w _]
  simp
end
theorem mk_bools23 (n : Nat) (hn : n ≤ 1000000) (W : World) : (Instr.makeSlice 83 (.int .i64 n) (.int .i64 n)).run Tryd.prog W = .ok (.slice (some ⟨W.heap.size, 0, none⟩) n n) (W.alloc (.cells (Array.replicate n (.bool false)) 4)) := by
  obtain ⟨i0, hi, hz0, hz1, hz2⟩ := info_parts (show (Tryd.prog.info? 4).map (fun i => (i.zero, i.size, i.bytes)) = some (some (.bool false), 1, 1) by kernel_rfl)
  have := run_make (P := Tryd.prog) W 83 4 i0 _ Tryd.underlying83 hi hz0 .i64 .i64 n n (by omega) (by omega) (by rw [hz2]; omega) (by omega)
  rw [this, Int.toNat_natCast, hz1, Nat.mul_one]
  have e : madeCells (Value.bool false).cells n = Array.replicate n (.bool false) := by
    apply Array.ext'
    show (madeCells #[Value.bool false] n).toList = _
    rw [toList_madeCells_one]
    simp
  rw [e]

/-- who has one more already, behind k rounds. -/
def gvL (W : Int) (L : List Int) (k : Nat) : List Bool := (List.range L.length).map fun i => decide (rkW W L i < k)
theorem gvL_len (W : Int) (L : List Int) (k : Nat) : (gvL W L k).length = L.length := by simp [gvL]
theorem gvL_at (W : Int) (L : List Int) {k i : Nat} (h : i < L.length) : (gvL W L k).getD i false = decide (rkW W L i < k) := by
  unfold gvL
  rw [List.getD_eq_getElem?_getD, List.getElem?_map, List.getElem?_range h]; rfl
theorem gvL_get {W : Int} {L : List Int} {k i : Nat} (h : i < (gvL W L k).length) : (gvL W L k)[i] = decide (rkW W L i < k) := by simp [gvL]
theorem gvL_zero (W : Int) (L : List Int) : gvL W L 0 = List.replicate L.length false := by
  refine List.ext_getElem (by simp [gvL]) fun k h1 h2 => ?_
  rw [gvL_get]; simp
theorem gvL_next {W : Int} {L : List Int} {k p : Nat} (hp : p < L.length) (hr : rkW W L p = k) : (gvL W L k).set p true = gvL W L (k + 1) := by
  refine List.ext_getElem (by simp [gvL]) fun j h1 h2 => ?_
  simp only [List.length_set, gvL_len] at h1
  rw [List.getElem_set, gvL_get, gvL_get]
  by_cases e : p = j
  · subst e; rw [if_pos rfl]; exact (decide_eq_true (by omega)).symm
  · rw [if_neg e]
    have hne : rkW W L j ≠ k := fun q => e (rk_inj (R := reF W L) hp h1 (hr.trans q.symm))
    by_cases q : rkW W L j < k
    · rw [decide_eq_true q, decide_eq_true (by omega)]
    · rw [decide_eq_false q, decide_eq_false (by omega)]
theorem ptF_none {W : Int} {L : List Int} {k i : Nat} (h : ¬ rkW W L i < k) : ptF W L k i = flF W L i := by unfold ptF; rw [if_neg h]; omega

/-- are all amounts that were looked at? -/
def goR (W : Int) (L : List Int) : Nat → Bool
  | 0 => decide (am23 W)
  | k + 1 => goR W L k && decide (am23 (wF L k))
theorem goR_iff {W : Int} {L : List Int} : ∀ {k : Nat}, goR W L k = true ↔ am23 W ∧ ∀ i, i < k → am23 (wF L i)
  | 0 => by unfold goR; simp
  | k + 1 => by
    unfold goR
    rw [Bool.and_eq_true, goR_iff, decide_eq_true_iff]
    constructor
    · rintro ⟨⟨h1, h2⟩, h3⟩
      refine ⟨h1, fun i hi => ?_⟩
      by_cases e : i = k
      · rw [e]; exact h3
      · exact h2 i (by omega)
    · rintro ⟨h1, h2⟩
      exact ⟨⟨h1, fun i hi => h2 i (by omega)⟩, h2 k (by omega)⟩
theorem goR_bad {W : Int} {L : List Int} (h : ¬ 32 < L.length) (hg : goR W L L.length = false) : shC W L = 103 := by
  by_cases hW : am23 W
  · by_cases ha : allW L = true
    · have := goR_iff.2 ⟨hW, allW_iff.1 ha⟩
      rw [hg] at this; simp at this
    · unfold shC
      rw [if_neg h, if_pos (.inr (by simpa using ha))]
  · exact shC_whole h hW
theorem PickIs.ways {R : Nat → Int} {n k j : Nat} {at' : Int} (h : PickIs R n k j at') : at' = -1 ∨ ∃ a : Nat, a < j ∧ at' = (a : Int) ∧ k ≤ rk R n a := by
  rcases h with ⟨h1, _⟩ | ⟨a, h1, h2, h3, _⟩
  · exact .inl h1
  · exact .inr ⟨a, h1, h2, h3⟩
def RefSpAt23 (W : Int) (L : List Int) (w : World) (e : Ending) (w' : World) : Prop := ∃ v', e = .returned (.tuple #[v', .int .i64 (shC W L)]) ∧ Reads .i64 w' v' (spA W L) ∧ Below w.heap.size w w'
def RefSpOwn23 (W : Int) (L : List Int) (w : World) (e : Ending) (w' : World) : Prop := ∃ v', e = .returned (.tuple #[v', .int .i64 (shC W L)]) ∧ Reads .i64 w' v' (spA W L) ∧ (∀ b, v'.ownBlock = some b → w.heap.size ≤ b) ∧ Below w.heap.size w w'
theorem ownR_at23 (B : Nat) (n c : Nat) : ∀ b, (Value.slice (some ⟨B, 0, none⟩) n c).ownBlock = some b → B ≤ b := fun b hb => by
  simp [Value.ownBlock] at hb; omega
theorem ownR_nil23 (B : Nat) : ∀ b, (Value.slice none 0 0).ownBlock = some b → B ≤ b := fun b hb => by
  simp [Value.ownBlock] at hb
def RsRel1 (W : Int) (L : List Int) (w0 : World) (b i : Value) (w : World) : Prop := ∃ k : Nat, k ≤ L.length ∧ i = .int .i64 (k : Int) ∧ b = .bool (goR W L k) ∧ w0 = w
def RsRel2 (L : List Int) (w0 : World) (s i : Value) (w : World) : Prop := ∃ k : Nat, k ≤ L.length ∧ i = .int .i64 (k : Int) ∧ s = .int .i64 (suF (wF L) k) ∧ w0 = w
def RsRel3 (W : Int) (L : List Int) (w0 : World) (P : Nat) (left i : Value) (w : World) : Prop := ∃ k : Nat, k ≤ L.length ∧ i = .int .i64 (k : Int) ∧ left = .int .i64 (W - suF (flF W L) k) ∧ Nu23 2 w P (upL (flF W L) L.length k) ∧ Below w0.heap.size w0 w
def RsRel4 (W : Int) (L : List Int) (w0 : World) (P G t : Nat) (left : Value) (w : World) : Prop := ∃ k d : Nat, k + d = t ∧ left = .int .i64 (d : Int) ∧ Nu23 2 w P (ptL W L k) ∧ Bo23 4 w G (gvL W L k) ∧ Below w0.heap.size w0 w
def RsRel5 (W : Int) (L : List Int) (k : Nat) (wv : World) (a i : Value) (w : World) : Prop := ∃ (j : Nat) (a' : Int), j ≤ L.length ∧ i = .int .i64 (j : Int) ∧ a = .int .i64 a' ∧ PickIs (reF W L) L.length k j a' ∧ ∃ m, w = wv.drewN m
set_option maxRecDepth 100000 in
set_option maxHeartbeats 12800000 in
theorem refSplit_own23 (W : Int) (v : Value) (L : List Int) (w : World) (hW : -9223372036854775808 ≤ W) (hW2 : W ≤ 9223372036854775807) (hr : Reads .i64 w v L) (hz : ∀ i, i < L.length → -9223372036854775808 ≤ wF L i ∧ wF L i ≤ 9223372036854775807) :
    Calls Tryd.prog 27 #[.int .i64 W, v] w (RefSpOwn23 W L w) := by
  obtain ⟨a1, c1, rfl⟩ := reads_slice hr
  unfold RefSpOwn23
  by_cases hm : 32 < L.length
  · have hmI : (32 : Int) < (L.length : Int) := by omega
    have e1 := hidden (shC_many (W := W) hm)
    have hsp := hidden (show spA W L = [] from if_neg (by rw [e1.out]; decide))
    clear hr hz
    go_enter Tryd.func27, Tryd.ntmps27
    go_wp2
    go_ret2
    exact ⟨.slice none 0 0, by rw [e1.out]; rfl, by rw [hsp.out]; exact Reads.nil _ _, ownR_nil23 _, Below.refl _ _⟩
  have hmI : ¬ (32 : Int) < (L.length : Int) := by omega
  have hQ := hidden (fun n => refAmt_any23 n w)
  have hx1 := hidden (fun i hi => hr.cell i hi)
  have hxW := hidden (fun i hi W' (hW : Below w.heap.size w W') => (hr.below hW (Nat.le_refl _)).cell i hi)
  have hbad := hidden (fun (hg : goR W L L.length = false) => goR_bad hm hg)
  have hgo := hidden (fun (hg : goR W L L.length = true) => shC_sums hm (goR_iff.1 hg).1 (goR_iff.1 hg).2)
  have hgi := hidden (fun (hg : goR W L L.length = true) => goR_iff.1 hg)
  have hlen : L.length ≤ 32 := by omega
  clear hr hm hz
  go_enter Tryd.func27, Tryd.ntmps27
  go_wp2_with fail
  refine (hQ.out _).mono ?_
  rintro e w' ⟨rfl, rfl⟩
  go_wp2_with fail
  go_loopw [7, 8] (fun b i wr => RsRel1 W L w b i wr) (fun _ i _ => L.length - (RowKit.intOf i).toNat)
  case atStart => exact ⟨0, Nat.zero_le _, rfl, rfl, rfl⟩
  case round =>
    obtain ⟨k, hk, rfl, rfl, rfl⟩ := hrel
    by_cases hlt : k < L.length
    · have hlI : (k : Int) < (L.length : Int) := by omega
      obtain ⟨b, o, rfl, q0⟩ := hx1.out k hlt
      rw [show L.getD k 0 = wF L k from rfl] at q0
      have hg1 := hidden (show goR W L (k + 1) = (goR W L k && decide (am23 (wF L k))) from rfl)
      generalize hgk : goR W L k = gk at *
      replace hgk := hidden hgk
      generalize wF L k = x at *
      cases gk with
      | true =>
        go_wp2_with fail
        refine (hQ.out _).mono ?_
        rintro e w' ⟨rfl, rfl⟩
        go_wp2
        go_roundw
        case rel => exact ⟨k + 1, hlt, by go_num, by rw [hg1.out]; simp, rfl⟩
        case measure => simp [RowKit.intOf]; omega
      | false =>
        go_wp2
        go_roundw
        case rel => exact ⟨k + 1, hlt, by go_num, by rw [hg1.out]; simp, rfl⟩
        case measure => simp [RowKit.intOf]; omega
    · obtain rfl : k = L.length := by omega
      cases hgn : goR W L L.length with
      | false =>
        have e1 := hidden (hbad.out hgn)
        have hsp := hidden (show spA W L = [] from if_neg (by rw [e1.out]; decide))
        clear hgo hgi hbad hx1 hxW hQ
        go_wp2
        go_ret2
        exact ⟨.slice none 0 0, by rw [e1.out]; rfl, by rw [hsp.out]; exact Reads.nil _ _, ownR_nil23 _, Below.refl _ _⟩
      | true =>
        have hok1 := hgi.out hgn
        have hcode := hgo.out hgn
        clear hgo hgi hbad hgn hQ
        have hwl := hidden (fun k (hk : k < L.length) => show IntKind.i64.wrap (suF (wF L) k + wF L k) = suF (wF L) (k + 1) from by
          have h1 : 0 ≤ suF (wF L) k := suF_pos fun i hi => (hok1.2 i (by omega)).1
          have h2 := (hok1.2 k hk).1
          have h3 := (hok1.2 k hk).2
          have h4 := suF_lt (f := wF L) (c := 1000000000000001) (k := k) fun i hi => by have := (hok1.2 i (by omega)).2; omega
          have h5 : suF (wF L) (k + 1) = suF (wF L) k + wF L k := rfl
          rw [IntKind.wrap_i64, h5]; omega)
        have hsW := hidden (show suF (wF L) L.length = smW L from rfl)
        have hWb := hok1.1
        go_wp2_with fail
        go_loopw [6, 9] (fun s i wr => RsRel2 L w s i wr) (fun _ i _ => L.length - (RowKit.intOf i).toNat)
        case atStart => exact ⟨0, Nat.zero_le _, rfl, rfl, rfl⟩
        case round =>
          obtain ⟨k, hk, rfl, rfl, rfl⟩ := hrel
          by_cases hlt : k < L.length
          · have hlI : (k : Int) < (L.length : Int) := by omega
            obtain ⟨b, o, rfl, q0⟩ := hx1.out k hlt
            rw [show L.getD k 0 = wF L k from rfl] at q0
            have hw1 := hwl.out k hlt
            generalize hsk : suF (wF L) (k + 1) = s1 at *
            replace hsk := hidden hsk
            generalize suF (wF L) k = s0 at *
            generalize wF L k = x at *
            go_wp2_with fail
            go_roundw
            case rel => exact ⟨k + 1, hlt, by go_num, by rw [hsk.out], rfl⟩
            case measure => simp [RowKit.intOf]; omega
          · obtain rfl : k = L.length := by omega
            rw [hsW.out]
            clear hwl hsW hx1
            by_cases h1 : 1000000000000000 < smW L
            · rw [if_pos h1] at hcode
              have e1 := hidden hcode
              have hsp := hidden (show spA W L = [] from if_neg (by rw [e1.out]; decide))
              have hd1 : decide (1000000000000000 < smW L) = true := decide_eq_true h1
              clear hok1 hcode hxW
              go_wp2
              go_ret2
              exact ⟨.slice none 0 0, by rw [e1.out]; rfl, by rw [hsp.out]; exact Reads.nil _ _, ownR_nil23 _, Below.refl _ _⟩
            rw [if_neg h1] at hcode
            have hd1 : decide (1000000000000000 < smW L) = false := decide_eq_false h1
            by_cases h2 : smW L = 0 ∧ W ≠ 0
            · rw [if_pos h2] at hcode
              have e1 := hidden hcode
              have hsp := hidden (show spA W L = [] from if_neg (by rw [e1.out]; decide))
              have hW0 : (W != 0) = true := by simp; exact h2.2
              have hW1 : ¬ W = 0 := h2.2
              rw [h2.1]
              clear hok1 hcode hxW h2 hd1 h1
              go_wp2
              go_ret2
              exact ⟨.slice none 0 0, by rw [e1.out]; rfl, by rw [hsp.out]; exact Reads.nil _ _, ownR_nil23 _, Below.refl _ _⟩
            rw [if_neg h2] at hcode
            have hok := shC_fine.1 hcode
            have hsp := hidden (show spA W L = shL W L from if_pos hcode)
            have hc0 := hidden hcode
            have hmk := mk_longs23 L.length (by omega)
            by_cases hS : smW L = 0
            · have hz := hidden (sh_zero hS (hok.fit hS))
              obtain rfl : W = 0 := hok.fit hS
              rw [hS]
              clear hok hcode h1 h2 hd1 hok1 hxW
              have hN := hidden (Nu23.new 2 w L.length)
              have hb := hidden ((Below.refl w.heap.size w).alloc (Nat.le_refl _) (.cells (Array.replicate L.length (.int .i64 0)) 2))
              go_wp2
              go_ret2
              exact ⟨.slice (some ⟨w.heap.size, 0, none⟩) L.length L.length, by rw [hc0.out]; rfl, by rw [hsp.out, hz.out]; exact hN.out.reads (by simp) (by omega), ownR_at23 _ _ _, hb.out⟩
            · have hS0 : 0 < smW L := by have := hok.pos; omega
              have hS2 := hok.sum
              have hlb := hok.left_bd hS0
              obtain ⟨t, ht⟩ : ∃ t : Nat, lfW W L = (t : Int) := ⟨(lfW W L).toNat, by omega⟩
              have htn : t < L.length := by omega
              have hshl := hidden (show shL W L = ptL W L t from by unfold shL; rw [ht]; rfl)
              have hfl := hidden (fun k (hk : k < L.length) => hok.fl hS0 hk)
              have hD := hidden (fun k (hk : k < L.length) (W' : World) => show Calls Tryd.prog 38 #[.int .i64 W, .int .i64 (wF L k), .int .i64 (smW L)] W' (fun e w' => e = .returned (.tuple #[.int .i64 (flF W L k), .int .i64 0]) ∧ W' = w') from by
                have b1 := hok.w
                have b2 := hok.all k hk
                unfold am23 at b1 b2
                have hc : am23 W ∧ am23 (wF L k) ∧ am23 (smW L) ∧ wF L k ≤ smW L ∧ smW L ≠ 0 := ⟨hok.w, hok.all k hk, by unfold am23; omega, hok.le hk, by omega⟩
                have := refFloor_any23 W (wF L k) (smW L) W' (by omega) (by omega) (by omega) (by omega) (by omega)
                rwa [show floV W (wF L k) (smW L) = flF W L k from if_pos hc, show floC W (wF L k) (smW L) = 0 from if_pos hc] at this)
              have hAb := hidden (fun i j (hi : i < L.length) (hj : j < L.length) (W' : World) => show Calls Tryd.prog 39 #[.int .i64 W, .int .i64 (wF L i), .int .i64 (flF W L i), .int .i64 (smW L), .int .i64 (wF L j), .int .i64 (flF W L j)] W' (fun e w' => e = .returned (.bool (decide (reF W L j < reF W L i))) ∧ w' = W') from by
                have b1 := hok.w
                have b2 := hok.all i hi
                have b3 := hok.all j hj
                have b4 := hok.fl hS0 hi
                have b5 := hok.fl hS0 hj
                unfold am23 at b1 b2 b3
                exact refAbove_any23 W (wF L i) (flF W L i) (smW L) (wF L j) (flF W L j) (reF W L i) (reF W L j) W'
                  (fun W2 => refOver_any23 W (wF L i) (flF W L i) (smW L) (reF W L i) W2 (by omega) (by omega) (by omega) (by omega) (by omega) (by omega) (by omega) (by omega) (by omega) (by omega) (by omega))
                  (fun W2 => refOver_any23 W (wF L j) (flF W L j) (smW L) (reF W L j) W2 (by omega) (by omega) (by omega) (by omega) (by omega) (by omega) (by omega) (by omega) (by omega) (by omega) (by omega)))
              have hlfe := hidden (show W - suF (flF W L) L.length = (t : Int) from ht)
              have hsub := hidden (fun k (hk : k < L.length) => show 0 ≤ suF (flF W L) k ∧ suF (flF W L) (k + 1) = suF (flF W L) k + flF W L k ∧ suF (flF W L) (k + 1) ≤ W from by
                refine ⟨suF_pos fun i hi => (hok.fl hS0 (by omega)).1, rfl, ?_⟩
                have h1 := suF_upto (f := flF W L) (k := L.length) (fun i hi => (hok.fl hS0 hi).1) (k + 1) (by omega)
                unfold lfW at hlb
                omega)
              have hpt := hidden (fun (k p : Nat) (hp : p < L.length) => show 0 ≤ ptF W L k p ∧ ptF W L k p ≤ 1000000000000001 from by
                have h1 := hok.fl hS0 hp
                have h2 := hok.w.2
                unfold ptF
                split <;> omega)
              have hSd : (smW L == 0) = false := by simp; exact hS
              have hp0 := hidden (pt_none (W := W) (L := L))
              have hW3 := hidden hok.w
              have hmk2 := mk_bools23 L.length (by omega)
              clear hok hcode h1 h2 hok1 hS hS0 hS2 hlb ht hWb
              generalize smW L = S at *
              have hN1 := Nu23.new 2 w L.length
              have hb1 : Below w.heap.size w (w.alloc (.cells (Array.replicate L.length (.int .i64 0)) 2)) := (Below.refl w.heap.size w).alloc (Nat.le_refl _) _
              have hst := hidden (show RsRel3 W L w w.heap.size (.int .i64 W) (.int .i64 0) _ from ⟨0, Nat.zero_le _, rfl, by simp [suF], by rw [upL_zero]; exact hN1, hb1⟩)
              clear hN1 hb1
              go_wp2_with fail
              go_loopw [11, 12] (fun l i wr => RsRel3 W L w w.heap.size l i wr) (fun _ i _ => L.length - (RowKit.intOf i).toNat)
              case atStart => exact hst.out
              case round =>
                clear hst
                obtain ⟨k, hk, rfl, rfl, hP, hb⟩ := hrel
                by_cases hlt : k < L.length
                · obtain ⟨b, o, rfl, q0⟩ := hxW.out k hlt _ hb
                  rw [show L.getD k 0 = wF L k from rfl] at q0
                  have hlI : (k : Int) < (L.length : Int) := by omega
                  have hD1 := hidden (hD.out k hlt wr)
                  have cP := hP.cell (i := k) (by rw [upL_len]; exact hlt)
                  have fP := hP.frozen k
                  have hP2 := hidden (hP.set k (flF W L k))
                  rw [upL_set] at hP2
                  have hb2 := hidden (hb.setCell (p := ⟨w.heap.size, k, none⟩) (Nat.le_refl _) (.int .i64 (flF W L k)))
                  obtain ⟨s1, s2, s3⟩ := hsub.out k hlt
                  have hW2 := hW3.out.2
                  have hf2 := (hfl.out k hlt).1
                  have hwl : IntKind.i64.wrap (W - suF (flF W L) k - flF W L k) = W - suF (flF W L) (k + 1) := by rw [IntKind.wrap_i64]; omega
                  generalize hl' : W - suF (flF W L) (k + 1) = l' at *
                  replace hl' := hidden hl'
                  clear hP hb hD hxW hsub s1 s2 s3 hW2 hf2 hfl hAb
                  generalize suF (flF W L) k = s0 at *
                  generalize (upL (flF W L) L.length k).getD k 0 = z1 at *
                  generalize flF W L k = q at *
                  generalize wF L k = x at *
                  go_wp2_with fail
                  refine hD1.out.mono ?_
                  rintro e w1 ⟨rfl, rfl⟩
                  clear hD1
                  go_wp2_with fail
                  go_roundw
                  case rel => exact ⟨k + 1, hlt, by go_num, by rw [hl'.out], hP2.out, hb2.out⟩
                  case measure => simp [RowKit.intOf]; omega
                · obtain rfl : k = L.length := by omega
                  rw [upL_end, ← hp0.out] at hP
                  have hl0 := hlfe.out
                  rw [hl0]
                  obtain ⟨b1, o1, rfl, _⟩ := hxW.out 0 (by omega) w (Below.refl _ _)
                  have hx2 := hidden (fun i (hi : i < L.length) W' (hW : Below w.heap.size w W') => show W'.cell? ⟨b1, o1 + i, none⟩ = some (.int .i64 (wF L i)) from by
                    obtain ⟨b', o', e, q⟩ := hxW.out i hi W' hW
                    simp only [Option.some.injEq, Addr.mk.injEq, and_true] at e
                    obtain ⟨rfl, rfl⟩ := e
                    exact q)
                  obtain ⟨G, hG⟩ : ∃ G, wr.heap.size = G := ⟨_, rfl⟩
                  have hGP : w.heap.size ≠ G := by have := hP.lt; omega
                  have hGw : w.heap.size ≤ G := by have := hP.lt; omega
                  have hbA := (Below.refl _ wr).alloc (Nat.le_refl _) (.cells (Array.replicate L.length (.bool false)) 4)
                  have hP3 := hP.below hbA
                  have hB3 := Bo23.new 4 wr L.length
                  rw [hG] at hB3
                  have hst := hidden (show RsRel4 W L w w.heap.size G t (.int .i64 (t : Int)) _ from ⟨0, t, by omega, rfl, hP3, by rw [gvL_zero]; exact hB3, hb.trans (hbA.mono hb.size)⟩)
                  clear hP hb hD hxW hsub hp0 hl0 hbA hP3 hB3 hlfe hW3 hmk
                  go_wp2_with fail
                  clear hG
                  go_loopw [11] (fun l wr => RsRel4 W L w w.heap.size G t l wr) (fun l _ => (RowKit.intOf l).toNat)
                  case atStart => exact hst.out
                  case round =>
                    clear hst
                    obtain ⟨k, d, hkd, rfl, hP, hB, hb⟩ := hrel
                    by_cases hd : 0 < d
                    · have hdI : (0 : Int) < (d : Int) := by omega
                      have hdB : decide ((0 : Int) < (d : Int)) = true := decide_eq_true (by omega)
                      have hdB2 : decide (0 < d) = true := decide_eq_true hd
                      have hkn : k < L.length := by omega
                      obtain ⟨wv, hwv⟩ : ∃ wv, wv = wr := ⟨_, rfl⟩
                      subst hwv
                      obtain ⟨d', hd'⟩ : ∃ d', d' = d - 1 := ⟨_, rfl⟩
                      have hwd : IntKind.i64.wrap ((d : Int) - 1) = (d' : Int) := by rw [IntKind.wrap_i64]; omega
                      have hdd := hidden (show k + 1 + d' = t ∧ d' < d from by omega)
                      clear hd' hd hkd
                      go_wp2_with fail
                      go_loopw [14, 15] (fun a i wx => RsRel5 W L k wv a i wx) (fun _ i _ => L.length - (RowKit.intOf i).toNat)
                      case atStart => exact ⟨0, -1, Nat.zero_le _, rfl, rfl, pick_first, 0, rfl⟩
                      case round =>
                        obtain ⟨j, a', hj, rfl, rfl, hpk, hm⟩ := hrel
                        have hB' := hB
                        have hP' := hP
                        have hb' := hb
                        clear hB hP hb
                        have hB : Bo23 4 wr G (gvL W L k) := by obtain ⟨m, rfl⟩ := hm; exact hB'.drewN m
                        have hP : Nu23 2 wr w.heap.size (ptL W L k) := by obtain ⟨m, rfl⟩ := hm; exact hP'.drewN m
                        have hb : Below w.heap.size w wr := by obtain ⟨m, rfl⟩ := hm; exact below_drewN hb'
                        have hm2 := hidden (fun n => show ∃ m, wr.drewN n = wv.drewN m from by obtain ⟨m, rfl⟩ := hm; exact ⟨_, World.drewN_drewN _ _ _⟩)
                        clear hB' hP' hb' hm
                        by_cases hlj : j < L.length
                        · have hjI : (j : Int) < (L.length : Int) := by omega
                          have cG := hB.cell (i := j) (by rw [gvL_len]; exact hlj)
                          rw [gvL_at _ _ hlj] at cG
                          have cw := hx2.out j hlj wr hb
                          have cp := hP.cell (i := j) (by rw [ptL_len]; exact hlj)
                          rw [ptL_at _ _ _ hlj] at cp
                          by_cases hg : rkW W L j < k
                          · rw [decide_eq_true hg] at cG
                            have hrel2 := hidden (hpk.skip hg)
                            clear hpk hP hB hb hx2 hAb hpt hfl
                            go_wp2_with fail
                            go_quiet (fail)
                            go_wp2
                            go_roundw
                            case rel => exact ⟨j + 1, a', hlj, by go_num, rfl, hrel2.out, hm2.out _⟩
                            case measure => simp [RowKit.intOf]; omega
                          · rw [decide_eq_false hg] at cG
                            rw [ptF_none hg] at cp
                            rcases hpk.ways with rfl | ⟨a, ha, rfl, hra⟩
                            · have hrel2 := hidden (hpk.take (Nat.le_of_not_lt hg))
                              clear hpk hP hB hb hx2 hAb hpt hfl
                              go_wp2_with fail
                              go_quiet (fail)
                              go_wp2
                              go_roundw
                              case rel => exact ⟨j + 1, (j : Int), hlj, by go_num, rfl, hrel2.out, hm2.out _⟩
                              case measure => simp [RowKit.intOf]; omega
                            · have han : a < L.length := by omega
                              have haI : (a : Int) < (L.length : Int) := by omega
                              have ha0 : decide ((a : Int) < 0) = false := decide_eq_false (by omega)
                              have ca := hx2.out a han wr hb
                              have cq := hP.cell (i := a) (by rw [ptL_len]; exact han)
                              rw [ptL_at _ _ _ han, ptF_none (show ¬ rkW W L a < k from Nat.not_lt.2 hra)] at cq
                              have hA1 := hidden (hAb.out j a hlj han)
                              by_cases hl : reF W L a < reF W L j
                              · have hrel2 := hidden (hpk.turn (Nat.le_of_not_lt hg) hl)
                                rw [decide_eq_true hl] at hA1
                                clear hpk hP hB hb hx2 hAb hpt hfl hra
                                go_wp2_with fail
                                go_quiet ((go_at_call 39; exact Calls.quiet_of_same (hA1.out _)))
                                go_wp2
                                go_roundw
                                case rel => exact ⟨j + 1, (j : Int), hlj, by go_num, rfl, hrel2.out, hm2.out _⟩
                                case measure => simp [RowKit.intOf]; omega
                              · have hrel2 := hidden (hpk.keep hl)
                                rw [decide_eq_false hl] at hA1
                                clear hpk hP hB hb hx2 hAb hpt hfl hra
                                go_wp2_with fail
                                go_quiet ((go_at_call 39; exact Calls.quiet_of_same (hA1.out _)))
                                go_wp2
                                go_roundw
                                case rel => first | exact ⟨j + 1, (a : Int), hlj, by go_num, rfl, hrel2.out, hm2.out _⟩ | ((repeat apply Exists.intro); exact ⟨⟨j + 1, (a : Int), hlj, by go_num, rfl, hrel2.out, hm2.out _⟩, rfl⟩)
                                case measure => simp [RowKit.intOf]; omega
                        · obtain rfl : j = L.length := by omega
                          obtain ⟨a, ha, rfl, hra⟩ := hpk.end hkn
                          have haI : (a : Int) < (L.length : Int) := by omega
                          have cG := hB.cell (i := a) (by rw [gvL_len]; exact ha)
                          have fG := hB.frozen a
                          have cp := hP.cell (i := a) (by rw [ptL_len]; exact ha)
                          rw [ptL_at _ _ _ ha] at cp
                          have fP := hP.frozen a
                          have hP4 := hidden (fun (_ : Nat) => ((hP.other (b := G) (o := a) (v := .bool true) hGP).set a (ptF W L k a + 1)))
                          have hB4 := hidden (fun (_ : Nat) => ((hB.set a true).other (b := w.heap.size) (o := a) (v := .int .i64 (ptF W L k a + 1)) (Ne.symm hGP)))
                          rw [pt_next ha hra] at hP4
                          rw [gvL_next ha hra] at hB4
                          have hb4 := hidden (fun (_ : Nat) => (hb.setCell (p := ⟨G, a, none⟩) hGw (.bool true)).setCell (p := ⟨w.heap.size, a, none⟩) (Nat.le_refl _) (.int .i64 (ptF W L k a + 1)))
                          have hpb := hpt.out k a ha
                          have hw1 : IntKind.i64.wrap (ptF W L k a + 1) = ptF W L k a + 1 := by rw [IntKind.wrap_i64]; omega
                          clear hpk hP hB hb hx2 hAb hpt hfl hpb
                          generalize ptF W L k a = z at *
                          generalize (gvL W L k).getD a false = z2 at *
                          go_wp2_with fail
                          go_roundw
                          case rel => exact ⟨k + 1, d', hdd.out.1, rfl, hP4.out 0, hB4.out 0, hb4.out 0⟩
                          case measure =>
                            have := hdd.out.2
                            simp [RowKit.intOf]; omega
                    · obtain rfl : d = 0 := by omega
                      obtain rfl : k = t := by omega
                      have hend := hidden (hP.reads (n := L.length) (ptL_len _ _ _) (by omega))
                      replace hb := hidden hb
                      clear hP hB
                      go_wp2
                      go_ret2
                      exact ⟨.slice (some ⟨w.heap.size, 0, none⟩) L.length L.length, by rw [hc0.out]; rfl, by rw [hsp.out, hshl.out]; exact hend.out, ownR_at23 _ _ _, hb.out⟩
theorem refSplit_any23 (W : Int) (v : Value) (L : List Int) (w : World) (hW : -9223372036854775808 ≤ W) (hW2 : W ≤ 9223372036854775807) (hr : Reads .i64 w v L) (hz : ∀ i, i < L.length → -9223372036854775808 ≤ wF L i ∧ wF L i ≤ 9223372036854775807) :
    Calls Tryd.prog 27 #[.int .i64 W, v] w (RefSpAt23 W L w) :=
  (refSplit_own23 W v L w hW hW2 hr hz).mono fun e w' h => by
    obtain ⟨v', h1, h2, _, h4⟩ := h
    exact ⟨v', h1, h2, h4⟩
end Go.Proofs.YtlanggdmdpjfbaaDoor
