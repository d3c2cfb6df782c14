/-
  The document's own Sum.
-/
import Derived.Test.YtghkmagofadkfaaDoorCapsRef1
import Derived.Test.YtghkmagofadkfaaDoorCapsMath3
namespace Go.Proofs.YtghkmagofadkfaaDoor
open Go.RowKit Go.Maps
set_option linter.unusedVariables false

theorem results_tc {P : Program} {fn : Func} {p u : Tmp} {ty : TypeId} (h : fn.results = #[.tmp u, .cell p ty]) (tmps : Array Value) (w : World) (g : Nat) (t : TypeId) (cs : Array Value) (fr : Nat × Nat) (d : TypeDesc)
    (hp : tmps.getD p undef = .pointer (some ⟨g, 0, none⟩)) (hg : w.heap[g]? = some (.cells cs t fr))
    (hu : P.underlying ty = some d) (hd : (match d with | .struct _ | .array _ _ => true | _ => false) = true) (hi : (P.info? ty).map (·.size) = some cs.size) :
    (results fn tmps).run P w = .ok (.tuple #[tmps.getD u undef, .agg cs]) w := by
  have hp' : tmps[p]?.getD undef = .pointer (some ⟨g, 0, none⟩) := by simpa using hp
  simp [results, h, hp', asAddr, run_loadVar_row w g t ty cs fr d hg hu hd hi]
theorem fl_size : (Tryd.prog.info? 47).map (·.size) = some 3 := by kernel_rfl
theorem fl_end {a : Act} {w : World} {fn : Func} {R : Ending → World → Prop} {p u : Tmp} {g : Nat} {d q : Int} {ql : Bool} {vb : Value}
    (h : fn.results = #[.tmp u, .cell p 47]) (hd : a.defers = []) (hp : a.tmps.getD p undef = .pointer (some ⟨g, 0, none⟩)) (hb : a.tmps.getD u undef = vb) (hg : w.heap[g]? = some (fcells d ql q))
    (hR : R (.returned (.tuple #[vb, faultV d ql q])) w) : bodyPost Tryd.prog fn R .ret a w := by
  subst hb
  exact bodyPost_ret (results_tc h _ _ _ _ _ _ _ hp hg Tryd.underlying47 rfl fl_size) hd hR
/-- the answer's fault is written. -/
theorem flAt_next {w w' : World} {g : Nat} (h : w.heap[g]? = some (fcells 0 false 0)) (hb : Below w.heap.size w w') :
    w'.cell? ⟨g, 0, none⟩ = some (.int .i64 0) ∧ w'.cell? ⟨g, 1, none⟩ = some (.bool false) ∧ w'.cell? ⟨g, 2, none⟩ = some (.int .i64 0) ∧ w'.frozen? ⟨g, 0, none⟩ = false ∧ w'.frozen? ⟨g, 1, none⟩ = false ∧ w'.frozen? ⟨g, 2, none⟩ = false ∧
    ∀ (d : Int) (ql : Bool) (q : Int), (((w'.setCell ⟨g, 0, none⟩ (.int .i64 d)).setCell ⟨g, 1, none⟩ (.bool ql)).setCell ⟨g, 2, none⟩ (.int .i64 q)).heap[g]? = some (fcells d ql q) := by
  have h2 := (hb.block _ (Array.getElem?_eq_some_iff.1 h).1).trans h
  refine ⟨?_, ?_, ?_, ?_, ?_, ?_, fun d ql q => ?_⟩
  · rw [cell_of_row _ _ _ _ _ _ h2]; rfl
  · rw [cell_of_row _ _ _ _ _ _ h2]; rfl
  · rw [cell_of_row _ _ _ _ _ _ h2]; rfl
  · simp [World.frozen?, h2]
  · simp [World.frozen?, h2]
  · simp [World.frozen?, h2]
  · rw [heap_setCell_row (heap_setCell_row (heap_setCell_row h2 _) _) _]
    rfl
theorem below_flt {w w' : World} {g : Nat} (hb : Below w.heap.size w w') (a b c : Value) (hg : w.heap.size ≤ g := by exact Nat.le_refl _) : Below w.heap.size w (((w'.setCell ⟨g, 0, none⟩ a).setCell ⟨g, 1, none⟩ b).setCell ⟨g, 2, none⟩ c) :=
  ((hb.setCell hg _).setCell hg _).setCell hg _
/-- what the document's Sum answers. -/
def RefSumAt (T : CTab) (l : List Ln) (w : World) (e : Ending) (w' : World) : Prop :=
  ((∃ k : Nat, badL l = some k ∧ e = .returned (.tuple #[.int .i64 0, faultV 103 true (k : Int)])) ∨ (badL l = none ∧ e = .returned (.tuple #[.int .i64 (suV T l), faultV (suC T l) false 0]))) ∧ Below w.heap.size w w'
def RuRel1 (l : List Ln) (w0 : World) (i : Value) (w : World) : Prop := ∃ k : Nat, k ≤ l.length ∧ i = .int .i64 (k : Int) ∧ (∀ j, j < k → lnOk (l.getD j lnZ)) ∧ w0 = w
def RuRel2 (T : CTab) (l : List Ln) (w0 : World) (v ok i : Value) (w : World) : Prop := ∃ (j : Nat) (x : Int), j ≤ 6 ∧ i = .int .i64 ((j : Int) + 1) ∧ v = .int .i64 x ∧ ok = .bool true ∧ g2 T l j x ∧ w0 = w
def RuRel3 (T : CTab) (l : List Ln) (c : Int) (w0 : World) (ok v i : Value) (w : World) : Prop :=
  ∃ (j : Nat) (x : Int) (b : Bool), j ≤ 6 ∧ i = .int .i64 ((j : Int) + 1) ∧ v = .int .i64 x ∧ ok = .bool b ∧ (b = true → g3 T l c j x) ∧ (b = false → ¬ fits T l) ∧ w0 = w
def RuRel4 (T : CTab) (l : List Ln) (c m : Int) (G : Prop) (w0 : World) (ok v i : Value) (w : World) : Prop :=
  ∃ (j : Nat) (x : Int) (b : Bool), j ≤ 33 ∧ i = .int .i64 (j : Int) ∧ v = .int .i64 x ∧ ok = .bool b ∧ (b = true → G ∧ g4 T l c m j x) ∧ (b = false → ¬ fits T l) ∧ w0 = w
def RuRel5 (T : CTab) (l : List Ln) (c m i : Int) (G H : Prop) (w0 : World) (ok v q : Value) (w : World) : Prop :=
  ∃ (k : Nat) (x : Int) (b : Bool), k ≤ l.length ∧ q = .int .i64 (k : Int) ∧ v = .int .i64 x ∧ ok = .bool b ∧ (b = true → G ∧ H ∧ x = s1 (l.take k) c m i ∧ x ≤ 1000000000000000) ∧ (b = false → ¬ fits T l) ∧ w0 = w
set_option maxRecDepth 100000 in
set_option maxHeartbeats 12800000 in
theorem refCpSum_any (w : World) (g : Nat) (T : CTab) (h : RcAt w g T) (v : Value) (l : List Ln) (hr : Row lnV 4 w v l) :
    Calls Tryd.prog 16 #[.pointer (some ⟨g, 0, none⟩), v] w (RefSumAt T l w) := by
  obtain ⟨a1, cap1, rfl⟩ := row_slice hr
  obtain ⟨_, hcap, hmax, _⟩ := row_cap hr
  have hlm : l.length ≤ 9223372036854775807 := by unfold maxLen at hmax; omega
  have hb1 : Below w.heap.size w (w.alloc (fcells 0 false 0)) := (Below.refl _ w).alloc (Nat.le_refl _) _
  have hF := hidden (heap_alloc_new w (fcells 0 false 0))
  have hx1 := hidden (fun k hk => rowL_at (hr.below lnV_len hb1 (Nat.le_refl _)) k hk)
  have h1 := h.below hb1
  have c1 := hidden (fun k hk => h1.c1 k hk)
  have c2 := hidden (fun k hk => h1.c2 k hk)
  have c3 := hidden (fun k hk => h1.c3 k hk)
  have hbW := hidden hb1
  have hW1 : ∃ W1, W1 = w.alloc (fcells 0 false 0) := ⟨_, rfl⟩
  obtain ⟨W1, hW1⟩ := hW1
  rw [← hW1] at hF hx1 c1 c2 c3 hbW
  unfold RefSumAt
  clear h hr hb1 h1 hcap hmax
  go_enter Tryd.func16, Tryd.ntmps16
  go_wp2_with fail
  change Code.wp _ _ _ _ (w.alloc (fcells 0 false 0))
  rw [← hW1]
  clear hW1
  go_loopw [6] (fun i wr => RuRel1 l W1 i wr) (fun i _ => l.length - (RowKit.intOf i).toNat)
  case atStart => exact ⟨0, Nat.zero_le _, rfl, fun j hj => absurd hj (Nat.not_lt_zero _), rfl⟩
  case round =>
    obtain ⟨k, hk, rfl, hok, rfl⟩ := hrel
    by_cases hlt : k < l.length
    · obtain ⟨b, o, rfl, q0, q1, q2, q3⟩ := hx1.out k hlt
      have hlI : (k : Int) < (l.length : Int) := by omega
      by_cases hx : lnOk (l.getD k lnZ)
      · have hok2 := hidden (show ∀ j, j < k + 1 → lnOk (l.getD j lnZ) from fun j hj => by
          rcases Nat.lt_succ_iff_lt_or_eq.1 hj with q | rfl
          · exact hok j q
          · exact hx)
        replace hok := hidden hok
        generalize l.getD k lnZ = x at *
        obtain ⟨c, m, i, u⟩ := x
        have t1 : inB c 1 6 = true := decide_eq_true hx.1
        have t2 : inB m 1 6 = true := decide_eq_true hx.2.1
        have t3 : inB i 0 32 = true := decide_eq_true hx.2.2.1
        have t4 : decide (monOk u) = true := decide_eq_true hx.2.2.2
        clear hx
        simp only at q0 q1 q2 q3
        go_wp2_with (first | (go_at_call 26; (with_reducible refine (in_any _ _ _ _).mono ?_); rintro e w' ⟨rfl, rfl⟩) | (go_at_call 25; (with_reducible refine (amt10_any _ _).mono ?_); rintro e w' ⟨rfl, rfl⟩))
        go_roundw
        case rel => exact ⟨k + 1, hlt, by go_num, hok2.out, rfl⟩
        case measure => simp [RowKit.intOf]; omega
      · have hbad := hidden (badL_first hlt hok hx)
        replace hok := hidden hok
        generalize l.getD k lnZ = x at *
        obtain ⟨c, m, i, u⟩ := x
        simp only at q0 q1 q2 q3
        have hw : inB c 1 6 = false ∨ (inB c 1 6 = true ∧ inB m 1 6 = false) ∨ (inB c 1 6 = true ∧ inB m 1 6 = true ∧ inB i 0 32 = false) ∨ (inB c 1 6 = true ∧ inB m 1 6 = true ∧ inB i 0 32 = true ∧ decide (monOk u) = false) := by
          cases t1 : inB c 1 6
          · exact .inl rfl
          · cases t2 : inB m 1 6
            · exact .inr (.inl ⟨rfl, rfl⟩)
            · cases t3 : inB i 0 32
              · exact .inr (.inr (.inl ⟨rfl, rfl, rfl⟩))
              · exact .inr (.inr (.inr ⟨rfl, rfl, rfl, decide_eq_false (fun q => hx ⟨inB_yes t1, inB_yes t2, inB_yes t3, q⟩)⟩))
        clear hx
        rcases hw with t1 | ⟨t1, t2⟩ | ⟨t1, t2, t3⟩ | ⟨t1, t2, t3, t4⟩
        all_goals
          go_wp2_with (first | (go_at_call 26; (with_reducible refine (in_any _ _ _ _).mono ?_); rintro e w' ⟨rfl, rfl⟩) | (go_at_call 25; (with_reducible refine (amt10_any _ _).mono ?_); rintro e w' ⟨rfl, rfl⟩))
          refine (fault_placed _ _ _ (by decide)).mono ?_
          rintro r w2 ⟨rfl, hb2⟩
          obtain ⟨a0, a1, a2, b0, b1, b2, hp2⟩ := flAt_next hF.out hb2
          replace hp2 := hidden hp2
          have hb3 := hidden (hbW.out.trans (hb2.mono hbW.out.size))
          clear hb2
          go_wp2_with fail
          exact fl_end (vb := .int .i64 0) rfl rfl rfl rfl (hp2.out 103 true (k : Int)) ⟨.inl ⟨k, hbad.out, rfl⟩, below_flt hb3.out _ _ _⟩
    · obtain rfl : k = l.length := by omega
      have hall := all_of_getD hok
      have hbn := hidden (badL_fine hall)
      clear hok
      go_wp2_with fail
      go_loopw [7, 8, 9] (fun v ok i wr => RuRel2 T l W1 v ok i wr) (fun _ _ i _ => 7 - (RowKit.intOf i).toNat)
      case atStart => exact ⟨0, 0, by omega, rfl, rfl, rfl, g2_start, rfl⟩
      case round =>
        obtain ⟨j2, X, hj2, rfl, rfl, rfl, hG2, rfl⟩ := hrel
        replace hG2 := hidden hG2
        by_cases hj26 : j2 < 6
        · have hj2I : (j2 : Int) + 1 ≤ 6 := by omega
          have hc : 1 ≤ (j2 : Int) + 1 ∧ (j2 : Int) + 1 ≤ 6 := by omega
          go_wp2_with fail
          go_loopw [8, 10, 11] (fun ok v i wr => RuRel3 T l ((j2 : Int) + 1) W1 ok v i wr) (fun _ _ i _ => 7 - (RowKit.intOf i).toNat)
          case atStart => exact ⟨0, 0, true, by omega, rfl, rfl, rfl, fun _ => g3_start _, (fun e => by cases e), rfl⟩
          case round =>
            obtain ⟨j3, Y, b, hj3, rfl, rfl, rfl, hg, hno, rfl⟩ := hrel
            by_cases hj36 : j3 < 6
            · have hj3I : (j3 : Int) + 1 ≤ 6 := by omega
              have hm : 1 ≤ (j3 : Int) + 1 ∧ (j3 : Int) + 1 ≤ 6 := by omega
              have hgH := hidden hg
              have hnH := hidden hno
              clear hg hno
              go_wp2_with fail
              go_loopw [8, 12, 13] (fun ok v i wr => RuRel4 T l ((j2 : Int) + 1) ((j3 : Int) + 1) (g3 T l ((j2 : Int) + 1) j3 Y) W1 ok v i wr) (fun _ _ i _ => 33 - (RowKit.intOf i).toNat)
              case atStart => exact ⟨0, 0, b, by omega, rfl, rfl, rfl, fun e => ⟨hgH.out e, g4_start _ _⟩, hnH.out, rfl⟩
              case round =>
                clear hgH hnH
                obtain ⟨j, y, b, hj, rfl, rfl, rfl, hg, hno, rfl⟩ := hrel
                by_cases hj33 : j < 33
                · have hjI : (j : Int) ≤ 32 := by omega
                  have hi : 0 ≤ (j : Int) ∧ (j : Int) ≤ 32 := by omega
                  have hgH := hidden hg
                  have hnH := hidden hno
                  clear hg hno
                  go_wp2_with fail
                  go_loopw [8, 14, 15] (fun ok v i wr => RuRel5 T l ((j2 : Int) + 1) ((j3 : Int) + 1) (j : Int) (g3 T l ((j2 : Int) + 1) j3 Y) (g4 T l ((j2 : Int) + 1) ((j3 : Int) + 1) j y) W1 ok v i wr) (fun _ _ i _ => l.length - (RowKit.intOf i).toNat)
                  case atStart => exact ⟨0, 0, b, Nat.zero_le _, rfl, rfl, rfl, fun e => ⟨(hgH.out e).1, (hgH.out e).2, rfl, by omega⟩, hnH.out, rfl⟩
                  case round =>
                    clear hgH hnH
                    obtain ⟨k, x, b, hk, rfl, rfl, rfl, hg, hno, rfl⟩ := hrel
                    by_cases hlt : k < l.length
                    · have hlI : (k : Int) < (l.length : Int) := by omega
                      cases b with
                      | false =>
                        have hM := hidden (most10_any x (getC T (3, (j : Int))) W1)
                        have hS := hidden (sum10_any y (capN x (getC T (3, (j : Int)))) W1)
                        have hno1 := hidden (hno rfl)
                        clear hg hno
                        have c3' := c3.out j hj33
                        generalize getC T (3, (j : Int)) = lim at *
                        generalize capN x lim = cx at *
                        generalize IntKind.i64.wrap (y + cx) = z at *
                        by_cases hq : z ≤ 1000000000000000
                        · have hq' := hidden hq
                          have hqb : decide (z ≤ 1000000000000000) = true := decide_eq_true hq
                          rw [hqb] at hS
                          clear hq hqb
                          go_wp2_with (first | (go_at_call 31; (with_reducible refine hM.out.mono ?_); rintro e w' ⟨rfl, rfl⟩) | (go_at_call 30; (with_reducible refine hS.out.mono ?_); rintro e w' ⟨rfl, rfl⟩))
                          go_roundw
                          case rel => exact ⟨j + 1, z, false, by omega, by go_num, rfl, rfl, (fun e => by cases e), fun _ => hno1.out, rfl⟩
                          case measure => simp [RowKit.intOf]; omega
                        · have hq' := hidden hq
                          have hqb : decide (z ≤ 1000000000000000) = false := decide_eq_false hq
                          rw [hqb] at hS
                          clear hq hqb
                          go_wp2_with (first | (go_at_call 31; (with_reducible refine hM.out.mono ?_); rintro e w' ⟨rfl, rfl⟩) | (go_at_call 30; (with_reducible refine hS.out.mono ?_); rintro e w' ⟨rfl, rfl⟩))
                          go_roundw
                          case rel => exact ⟨j + 1, z, false, by omega, by go_num, rfl, rfl, (fun e => by cases e), fun _ => hno1.out, rfl⟩
                          case measure => simp [RowKit.intOf]; omega
                      | true =>
                        obtain ⟨hg3, hg4, hx, hx2⟩ := hg rfl
                        obtain ⟨bb, oo, rfl, q0, q1, q2, q3⟩ := hx1.out k hlt
                        by_cases he : (l.getD k lnZ).c = (j2 : Int) + 1 ∧ (l.getD k lnZ).m = (j3 : Int) + 1 ∧ (l.getD k lnZ).i = (j : Int)
                        · obtain ⟨hs1, hs2⟩ := step_line (T := T) hall hlt hc hm hi he hx hx2
                          have hS := hidden (sum10_any x (l.getD k lnZ).v W1)
                          generalize l.getD k lnZ = Z at *
                          obtain ⟨zc, zm, zi, zv⟩ := Z
                          simp only at he q0 q1 q2 q3 hs1 hs2 hS
                          obtain ⟨rfl, rfl, rfl⟩ := he
                          replace hg3 := hidden hg3
                          replace hg4 := hidden hg4
                          replace hs1 := hidden hs1
                          replace hs2 := hidden hs2
                          clear hx hx2 hg hno
                          generalize IntKind.i64.wrap (x + zv) = z at *
                          by_cases hq : z ≤ 1000000000000000
                          · have hq' := hidden hq
                            have hqb : decide (z ≤ 1000000000000000) = true := decide_eq_true hq
                            rw [hqb] at hS
                            clear hq hqb
                            go_wp2_with (go_at_call 30; (with_reducible refine hS.out.mono ?_); rintro e w' ⟨rfl, rfl⟩)
                            go_roundw
                            case rel => exact ⟨k + 1, z, true, hlt, by go_num, rfl, rfl, fun _ => ⟨hg3.out, hg4.out, hs1.out, hq'.out⟩, (fun e => by cases e), rfl⟩
                            case measure => simp [RowKit.intOf]; omega
                          · have hq' := hidden hq
                            have hqb : decide (z ≤ 1000000000000000) = false := decide_eq_false hq
                            rw [hqb] at hS
                            clear hq hqb
                            go_wp2_with (go_at_call 30; (with_reducible refine hS.out.mono ?_); rintro e w' ⟨rfl, rfl⟩)
                            go_roundw
                            case rel => exact ⟨k + 1, z, false, hlt, by go_num, rfl, rfl, (fun e => by cases e), fun _ => hs2.out (by have := hq'.out; omega), rfl⟩
                            case measure => simp [RowKit.intOf]; omega
                        · have hs1 := step_other hlt he
                          have hnx := hidden (show x = s1 (l.take (k + 1)) ((j2 : Int) + 1) ((j3 : Int) + 1) (j : Int) from by rw [hs1]; exact hx)
                          generalize l.getD k lnZ = Z at *
                          obtain ⟨zc, zm, zi, zv⟩ := Z
                          simp only at he q0 q1 q2 q3
                          have hx2' := hidden hx2
                          replace hg3 := hidden hg3
                          replace hg4 := hidden hg4
                          clear hx hx2 hs1 hg hno
                          have hw : (zc == (j2 : Int) + 1) = false ∨ ((zc == (j2 : Int) + 1) = true ∧ (zm == (j3 : Int) + 1) = false) ∨ ((zc == (j2 : Int) + 1) = true ∧ (zm == (j3 : Int) + 1) = true ∧ (zi == (j : Int)) = false) := by
                            cases t1 : (zc == (j2 : Int) + 1)
                            · exact .inl rfl
                            · cases t2 : (zm == (j3 : Int) + 1)
                              · exact .inr (.inl ⟨rfl, rfl⟩)
                              · refine .inr (.inr ⟨rfl, rfl, ?_⟩)
                                simp only [beq_eq_false_iff_ne]
                                intro t3
                                exact he ⟨by simpa using t1, by simpa using t2, t3⟩
                          clear he
                          rcases hw with t1 | ⟨t1, t2⟩ | ⟨t1, t2, t3⟩
                          all_goals
                            go_wp2
                            go_roundw
                            case rel => exact ⟨k + 1, x, true, hlt, by go_num, rfl, rfl, fun _ => ⟨hg3.out, hg4.out, hnx.out, hx2'.out⟩, (fun e => by cases e), rfl⟩
                            case measure => simp [RowKit.intOf]; omega
                    · obtain rfl : k = l.length := by omega
                      cases b with
                      | false =>
                        have hM := hidden (most10_any x (getC T (3, (j : Int))) W1)
                        have hS := hidden (sum10_any y (capN x (getC T (3, (j : Int)))) W1)
                        have hno1 := hidden (hno rfl)
                        clear hg hno
                        have c3' := c3.out j hj33
                        generalize getC T (3, (j : Int)) = lim at *
                        generalize capN x lim = cx at *
                        generalize IntKind.i64.wrap (y + cx) = z at *
                        by_cases hq : z ≤ 1000000000000000
                        · have hq' := hidden hq
                          have hqb : decide (z ≤ 1000000000000000) = true := decide_eq_true hq
                          rw [hqb] at hS
                          clear hq hqb
                          go_wp2_with (first | (go_at_call 31; (with_reducible refine hM.out.mono ?_); rintro e w' ⟨rfl, rfl⟩) | (go_at_call 30; (with_reducible refine hS.out.mono ?_); rintro e w' ⟨rfl, rfl⟩))
                          go_roundw
                          case rel => exact ⟨j + 1, z, false, by omega, by go_num, rfl, rfl, (fun e => by cases e), fun _ => hno1.out, rfl⟩
                          case measure => simp [RowKit.intOf]; omega
                        · have hq' := hidden hq
                          have hqb : decide (z ≤ 1000000000000000) = false := decide_eq_false hq
                          rw [hqb] at hS
                          clear hq hqb
                          go_wp2_with (first | (go_at_call 31; (with_reducible refine hM.out.mono ?_); rintro e w' ⟨rfl, rfl⟩) | (go_at_call 30; (with_reducible refine hS.out.mono ?_); rintro e w' ⟨rfl, rfl⟩))
                          go_roundw
                          case rel => exact ⟨j + 1, z, false, by omega, by go_num, rfl, rfl, (fun e => by cases e), fun _ => hno1.out, rfl⟩
                          case measure => simp [RowKit.intOf]; omega
                      | true =>
                        have hM := hidden (most10_any x (getC T (3, (j : Int))) W1)
                        have hS := hidden (sum10_any y (capN x (getC T (3, (j : Int)))) W1)
                        obtain ⟨hg3, hg4, hx, hx2⟩ := hg rfl
                        rw [List.take_length] at hx
                        obtain ⟨hs1, hs2⟩ := step_issuer (T := T) hall hc hm hj33 hg4 (by rw [← hx]; exact hx2)
                        rw [← hx] at hs1 hs2
                        replace hg3 := hidden hg3
                        replace hs1 := hidden hs1
                        replace hs2 := hidden hs2
                        clear hg4 hx
                        clear hg hno
                        have c3' := c3.out j hj33
                        generalize getC T (3, (j : Int)) = lim at *
                        generalize capN x lim = cx at *
                        generalize IntKind.i64.wrap (y + cx) = z at *
                        by_cases hq : z ≤ 1000000000000000
                        · have hq' := hidden hq
                          have hqb : decide (z ≤ 1000000000000000) = true := decide_eq_true hq
                          rw [hqb] at hS
                          clear hq hqb
                          go_wp2_with (first | (go_at_call 31; (with_reducible refine hM.out.mono ?_); rintro e w' ⟨rfl, rfl⟩) | (go_at_call 30; (with_reducible refine hS.out.mono ?_); rintro e w' ⟨rfl, rfl⟩))
                          go_roundw
                          case rel => exact ⟨j + 1, z, true, by omega, by go_num, rfl, rfl, fun _ => ⟨hg3.out, hs1.out hq'.out⟩, (fun e => by cases e), rfl⟩
                          case measure => simp [RowKit.intOf]; omega
                        · have hq' := hidden hq
                          have hqb : decide (z ≤ 1000000000000000) = false := decide_eq_false hq
                          rw [hqb] at hS
                          clear hq hqb
                          go_wp2_with (first | (go_at_call 31; (with_reducible refine hM.out.mono ?_); rintro e w' ⟨rfl, rfl⟩) | (go_at_call 30; (with_reducible refine hS.out.mono ?_); rintro e w' ⟨rfl, rfl⟩))
                          go_roundw
                          case rel => exact ⟨j + 1, z, false, by omega, by go_num, rfl, rfl, (fun e => by cases e), fun _ => hs2.out (by have := hq'.out; omega), rfl⟩
                          case measure => simp [RowKit.intOf]; omega
                · obtain rfl : j = 33 := by omega
                  cases b with
                  | false =>
                    have hM := hidden (most10_any y (getC T (2, (j3 : Int) + 1)) W1)
                    have hS := hidden (sum10_any Y (capN y (getC T (2, (j3 : Int) + 1))) W1)
                    have hno1 := hidden (hno rfl)
                    clear hg hno
                    have c2' := c2.out (j3 + 1) (by omega)
                    rw [show (((j3 + 1 : Nat) : Int)) = (j3 : Int) + 1 from rfl] at c2'
                    have c2'' := c2'
                    rw [← Nat.add_assoc] at c2''
                    generalize getC T (2, (j3 : Int) + 1) = lim at *
                    generalize capN y lim = cx at *
                    generalize IntKind.i64.wrap (Y + cx) = z at *
                    by_cases hq : z ≤ 1000000000000000
                    · have hq' := hidden hq
                      have hqb : decide (z ≤ 1000000000000000) = true := decide_eq_true hq
                      rw [hqb] at hS
                      clear hq hqb
                      go_wp2_with (first | (go_at_call 31; (with_reducible refine hM.out.mono ?_); rintro e w' ⟨rfl, rfl⟩) | (go_at_call 30; (with_reducible refine hS.out.mono ?_); rintro e w' ⟨rfl, rfl⟩))
                      go_roundw
                      case rel => exact ⟨j3 + 1, z, false, by omega, by go_num, rfl, rfl, (fun e => by cases e), fun _ => hno1.out, rfl⟩
                      case measure => simp [RowKit.intOf]; omega
                    · have hq' := hidden hq
                      have hqb : decide (z ≤ 1000000000000000) = false := decide_eq_false hq
                      rw [hqb] at hS
                      clear hq hqb
                      go_wp2_with (first | (go_at_call 31; (with_reducible refine hM.out.mono ?_); rintro e w' ⟨rfl, rfl⟩) | (go_at_call 30; (with_reducible refine hS.out.mono ?_); rintro e w' ⟨rfl, rfl⟩))
                      go_roundw
                      case rel => exact ⟨j3 + 1, z, false, by omega, by go_num, rfl, rfl, (fun e => by cases e), fun _ => hno1.out, rfl⟩
                      case measure => simp [RowKit.intOf]; omega
                  | true =>
                    have hM := hidden (most10_any y (getC T (2, (j3 : Int) + 1)) W1)
                    have hS := hidden (sum10_any Y (capN y (getC T (2, (j3 : Int) + 1))) W1)
                    obtain ⟨hg3, hg4⟩ := hg rfl
                    obtain ⟨hs1, hs2⟩ := step_money (T := T) hall hc hj36 hg3 hg4
                    replace hs1 := hidden hs1
                    replace hs2 := hidden hs2
                    clear hg3 hg4
                    clear hg hno
                    have c2' := c2.out (j3 + 1) (by omega)
                    rw [show (((j3 + 1 : Nat) : Int)) = (j3 : Int) + 1 from rfl] at c2'
                    have c2'' := c2'
                    rw [← Nat.add_assoc] at c2''
                    generalize getC T (2, (j3 : Int) + 1) = lim at *
                    generalize capN y lim = cx at *
                    generalize IntKind.i64.wrap (Y + cx) = z at *
                    by_cases hq : z ≤ 1000000000000000
                    · have hq' := hidden hq
                      have hqb : decide (z ≤ 1000000000000000) = true := decide_eq_true hq
                      rw [hqb] at hS
                      clear hq hqb
                      go_wp2_with (first | (go_at_call 31; (with_reducible refine hM.out.mono ?_); rintro e w' ⟨rfl, rfl⟩) | (go_at_call 30; (with_reducible refine hS.out.mono ?_); rintro e w' ⟨rfl, rfl⟩))
                      go_roundw
                      case rel => exact ⟨j3 + 1, z, true, by omega, by go_num, rfl, rfl, fun _ => hs1.out hq'.out, (fun e => by cases e), rfl⟩
                      case measure => simp [RowKit.intOf]; omega
                    · have hq' := hidden hq
                      have hqb : decide (z ≤ 1000000000000000) = false := decide_eq_false hq
                      rw [hqb] at hS
                      clear hq hqb
                      go_wp2_with (first | (go_at_call 31; (with_reducible refine hM.out.mono ?_); rintro e w' ⟨rfl, rfl⟩) | (go_at_call 30; (with_reducible refine hS.out.mono ?_); rintro e w' ⟨rfl, rfl⟩))
                      go_roundw
                      case rel => exact ⟨j3 + 1, z, false, by omega, by go_num, rfl, rfl, (fun e => by cases e), fun _ => hs2.out (by have := hq'.out; omega), rfl⟩
                      case measure => simp [RowKit.intOf]; omega
            · obtain rfl : j3 = 6 := by omega
              cases b with
              | false =>
                have hM := hidden (most10_any Y (getC T (1, (j2 : Int) + 1)) W1)
                have hS := hidden (sum10_any X (capN Y (getC T (1, (j2 : Int) + 1))) W1)
                have hno1 := hidden (hno rfl)
                clear hg hno
                have c1' := c1.out (j2 + 1) (by omega)
                rw [show (((j2 + 1 : Nat) : Int)) = (j2 : Int) + 1 from rfl] at c1'
                generalize getC T (1, (j2 : Int) + 1) = lim at *
                generalize capN Y lim = cx at *
                generalize IntKind.i64.wrap (X + cx) = z at *
                by_cases hq : z ≤ 1000000000000000
                · have hq' := hidden hq
                  have hqb : decide (z ≤ 1000000000000000) = true := decide_eq_true hq
                  rw [hqb] at hS
                  clear hq hqb
                  go_wp2_with (first | (go_at_call 31; (with_reducible refine hM.out.mono ?_); rintro e w' ⟨rfl, rfl⟩) | (go_at_call 30; (with_reducible refine hS.out.mono ?_); rintro e w' ⟨rfl, rfl⟩))
                  have hend := hidden (su_over hbn.out hno1.out)
                  refine (fault_bare _ _).mono ?_
                  rintro r w2 ⟨rfl, hb2⟩
                  obtain ⟨a0, a1, a2, b0, b1, b2, hp2⟩ := flAt_next hF.out hb2
                  replace hp2 := hidden hp2
                  have hb3 := hidden (hbW.out.trans (hb2.mono hbW.out.size))
                  clear hb2 hS hM
                  go_wp2_with fail
                  exact fl_end (vb := .int .i64 0) rfl rfl rfl rfl (hp2.out 104 false 0) ⟨.inr ⟨hbn.out, by rw [hend.out.1, hend.out.2]⟩, below_flt hb3.out _ _ _⟩
                · have hq' := hidden hq
                  have hqb : decide (z ≤ 1000000000000000) = false := decide_eq_false hq
                  rw [hqb] at hS
                  clear hq hqb
                  go_wp2_with (first | (go_at_call 31; (with_reducible refine hM.out.mono ?_); rintro e w' ⟨rfl, rfl⟩) | (go_at_call 30; (with_reducible refine hS.out.mono ?_); rintro e w' ⟨rfl, rfl⟩))
                  have hend := hidden (su_over hbn.out hno1.out)
                  refine (fault_bare _ _).mono ?_
                  rintro r w2 ⟨rfl, hb2⟩
                  obtain ⟨a0, a1, a2, b0, b1, b2, hp2⟩ := flAt_next hF.out hb2
                  replace hp2 := hidden hp2
                  have hb3 := hidden (hbW.out.trans (hb2.mono hbW.out.size))
                  clear hb2 hS hM
                  go_wp2_with fail
                  exact fl_end (vb := .int .i64 0) rfl rfl rfl rfl (hp2.out 104 false 0) ⟨.inr ⟨hbn.out, by rw [hend.out.1, hend.out.2]⟩, below_flt hb3.out _ _ _⟩
              | true =>
                have hM := hidden (most10_any Y (getC T (1, (j2 : Int) + 1)) W1)
                have hS := hidden (sum10_any X (capN Y (getC T (1, (j2 : Int) + 1))) W1)
                obtain ⟨hs1, hs2⟩ := step_class (T := T) hall hj26 hG2.out (hg rfl)
                replace hs1 := hidden hs1
                replace hs2 := hidden hs2
                clear hg hno
                have c1' := c1.out (j2 + 1) (by omega)
                rw [show (((j2 + 1 : Nat) : Int)) = (j2 : Int) + 1 from rfl] at c1'
                generalize getC T (1, (j2 : Int) + 1) = lim at *
                generalize capN Y lim = cx at *
                generalize IntKind.i64.wrap (X + cx) = z at *
                by_cases hq : z ≤ 1000000000000000
                · have hq' := hidden hq
                  have hqb : decide (z ≤ 1000000000000000) = true := decide_eq_true hq
                  rw [hqb] at hS
                  clear hq hqb
                  go_wp2_with (first | (go_at_call 31; (with_reducible refine hM.out.mono ?_); rintro e w' ⟨rfl, rfl⟩) | (go_at_call 30; (with_reducible refine hS.out.mono ?_); rintro e w' ⟨rfl, rfl⟩))
                  go_roundw
                  case rel => exact ⟨j2 + 1, z, by omega, by go_num, rfl, rfl, hs1.out hq'.out, rfl⟩
                  case measure => simp [RowKit.intOf]; omega
                · have hq' := hidden hq
                  have hqb : decide (z ≤ 1000000000000000) = false := decide_eq_false hq
                  rw [hqb] at hS
                  clear hq hqb
                  go_wp2_with (first | (go_at_call 31; (with_reducible refine hM.out.mono ?_); rintro e w' ⟨rfl, rfl⟩) | (go_at_call 30; (with_reducible refine hS.out.mono ?_); rintro e w' ⟨rfl, rfl⟩))
                  have hend := hidden (su_over hbn.out (hs2.out (by have := hq'.out; omega)))
                  refine (fault_bare _ _).mono ?_
                  rintro r w2 ⟨rfl, hb2⟩
                  obtain ⟨a0, a1, a2, b0, b1, b2, hp2⟩ := flAt_next hF.out hb2
                  replace hp2 := hidden hp2
                  have hb3 := hidden (hbW.out.trans (hb2.mono hbW.out.size))
                  clear hb2 hS hM
                  go_wp2_with fail
                  exact fl_end (vb := .int .i64 0) rfl rfl rfl rfl (hp2.out 104 false 0) ⟨.inr ⟨hbn.out, by rw [hend.out.1, hend.out.2]⟩, below_flt hb3.out _ _ _⟩
        · obtain rfl : j2 = 6 := by omega
          have hend := hidden (And.intro (su_fine (T := T) hbn.out (g2_end hG2.out).1) (g2_end hG2.out).2)
          go_wp2_with fail
          refine (fault_none _).mono ?_
          rintro r w2 ⟨rfl, hb2⟩
          obtain ⟨a0, a1, a2, b0, b1, b2, hp2⟩ := flAt_next hF.out hb2
          replace hp2 := hidden hp2
          have hb3 := hidden (hbW.out.trans (hb2.mono hbW.out.size))
          clear hb2
          go_wp2_with fail
          exact fl_end (vb := .int .i64 X) rfl rfl rfl rfl (hp2.out 0 false 0) ⟨.inr ⟨hbn.out, by rw [hend.out.1.1, hend.out.1.2, hend.out.2]⟩, below_flt hb3.out _ _ _⟩
end Go.Proofs.YtghkmagofadkfaaDoor
