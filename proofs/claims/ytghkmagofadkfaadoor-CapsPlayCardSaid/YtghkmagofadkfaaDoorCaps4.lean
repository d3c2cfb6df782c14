/-
  A map of groups' sums; add.
-/
import Derived.Test.YtghkmagofadkfaaDoorCaps2
import Derived.Test.YtghkmagofadkfaaDoorKeyRange
import Derived.Test.YtghkmagofadkfaaDoorMoney
import Derived.Lib.SmallJoins
namespace Go.Proofs.YtghkmagofadkfaaDoor
open Go.RowKit Go.Maps Go.MapKept
set_option linter.unusedVariables false

theorem gr_key {a b c : Int} (h : grIn (a, b, c)) :
    keyOf Tryd.prog 81 (.agg #[.int .i64 a, .int .i64 b, .int .i64 c]) = some (.string (keyBytes [.int .i64 a, .int .i64 b, .int .i64 c])) := by
  obtain ⟨⟨h1, h2⟩, ⟨h3, h4⟩, h5, h6⟩ := h
  have w1 : (Lit.int .i64 a).wf = true := WalkArith.wf_i64 ⟨h1, h2⟩
  have w2 : (Lit.int .i64 b).wf = true := WalkArith.wf_i64 ⟨h3, h4⟩
  have w3 : (Lit.int .i64 c).wf = true := WalkArith.wf_i64 ⟨h5, h6⟩
  have hu := Tryd.underlying81
  have hi := Tryd.underlying3
  have c1 : Tryd.prog.cellsOf 3 = 1 := by kernel_rfl
  have c2 : Tryd.prog.cellsOf 81 = 3 := by kernel_rfl
  have hk : Tryd.prog.keyType 81 = true := by kernel_rfl
  obtain ⟨m, hm⟩ : ∃ m, Tryd.prog.types.size = m + 1 := Nat.exists_eq_succ_of_ne_zero (of_decide_eq_true (by kernel_rfl))
  unfold keyOf
  simp only [hu]
  rw [if_pos (by simp [hk, Value.formed, hu, c2]), hm]
  unfold Program.keyLits
  simp only [hu, Value.cells]
  rw [if_pos (by simp [c2])]
  simp [Program.keyLits, hi, c1, w1, w2, w3]
theorem gr_law : WideMaps.KeyLaw Tryd.prog 81 := deep_law_laid cap_laid (m := 3) (by decide) (of_decide_eq_true (by kernel_rfl)) (by kernel_rfl) (by kernel_rfl)
theorem gr_enc : KeyEnc Tryd.prog 81 grV grIn where
  law := Keyed.of_law gr_law
  key := fun s hs => ⟨_, gr_key hs⟩
  inj := fun a b h => by
    obtain ⟨a1, a2, a3⟩ := a
    obtain ⟨b1, b2, b3⟩ := b
    simp only [grV, Value.agg.injEq, Array.mk.injEq, List.cons.injEq, Value.int.injEq, true_and, and_true] at h
    rw [h.1, h.2.1, h.2.2]
theorem lit_int {P : Program} {ti : TypeId} (hi : P.underlying ti = some (.int .i64)) {d : Nat} {c : Value} {ls : List Lit} (h : P.keyLits d ti [c] = some ls) : ∃ n : Int, c = .int .i64 n ∧ -9223372036854775808 ≤ n ∧ n ≤ 9223372036854775807 := by
  cases d with
  | zero => cases h
  | succ d =>
    unfold Program.keyLits at h
    rw [hi] at h
    cases c <;> simp at h
    rename_i q n
    obtain ⟨⟨rfl, hw⟩, _⟩ := h
    have := bounds_i64 hw
    exact ⟨n, rfl, this.1, this.2⟩
theorem key_dec3 {P : Program} {k ti : TypeId} {f1 f2 f3 : Field} (hu : P.underlying k = some (.struct #[f1, f2, f3])) (t1 : f1.type = ti) (t2 : f2.type = ti) (t3 : f3.type = ti) (o1 : f1.offset = 0) (o2 : f2.offset = 1) (o3 : f3.offset = 2)
    (hi : P.underlying ti = some (.int .i64)) (c1 : P.cellsOf ti = 1) (c2 : P.cellsOf k = 3) (v : Value) (l : Lit) (h : keyOf P k v = some l) : ∃ s, grIn s ∧ v = grV s := by
  unfold keyOf at h
  simp only [hu] at h
  split at h
  · rename_i q
    have q2 : v.formed P k = true := by simp at q; exact q.2
    clear q
    cases v <;> simp [Value.formed, hu, c2] at q2
    rename_i cs
    obtain ⟨a, b, c, rfl⟩ : ∃ a b c, cs = #[a, b, c] := by
      rcases cs with ⟨ls⟩
      match ls, q2 with
      | [a, b, c], _ => exact ⟨a, b, c, rfl⟩
    unfold Program.keyLits at h
    simp only [hu, Value.cells] at h
    obtain ⟨ls, h, _⟩ := Option.map_eq_some_iff.1 h
    split at h
    · simp [c1, t1, t2, t3, o1, o2, o3] at h
      obtain ⟨l1, e1, h⟩ := Option.bind_eq_some_iff.1 h
      obtain ⟨l1', h, _⟩ := Option.map_eq_some_iff.1 h
      obtain ⟨l2', h, _⟩ := Option.bind_eq_some_iff.1 h
      obtain ⟨l2, e2, h⟩ := Option.bind_eq_some_iff.1 h
      obtain ⟨l3', h, _⟩ := Option.bind_eq_some_iff.1 h
      obtain ⟨l3, e3, _⟩ := Option.bind_eq_some_iff.1 h
      obtain ⟨n1, rfl, p1⟩ := lit_int hi e1
      obtain ⟨n2, rfl, p2⟩ := lit_int hi e2
      obtain ⟨n3, rfl, p3⟩ := lit_int hi e3
      exact ⟨(n1, n2, n3), ⟨p1, p2, p3⟩, rfl⟩
    · cases h
  · cases h
theorem gr_dec : KeyDec Tryd.prog 81 grV grIn :=
  key_dec3 Tryd.underlying81 rfl rfl rfl rfl rfl rfl Tryd.underlying3 (by kernel_rfl) (by kernel_rfl)
theorem gr_zero (w : World) : (zeroValue 2).run Tryd.prog w = .ok (.int .i64 0) w := by kernel_rfl
abbrev GrMap (w : World) (b n : Nat) (G : GTab) : Prop := KeyTab Tryd.prog 81 2 .i64 grV grIn w b n G
theorem tot_two {x v : Int} (hx : 0 ≤ x) (hx2 : x ≤ 1000000000000000) (hv : 0 ≤ v) (hv2 : v ≤ 1000000000000000) :
    (x + v ≤ 1000000000000000 ∧ totV [x, v] = x + v ∧ totC [x, v] = 0) ∨ (1000000000000000 < x + v ∧ totV [x, v] = 0 ∧ totC [x, v] = 104) := by
  have h1 : inAll [x, v] = true := by simp [inAll, win_mk hx hx2, win_mk hv hv2]
  have h2 : total [x, v] = x + v := by simp [total]
  have h3 : in64 (x + v) = true := (in64_iff _).2 (by omega)
  unfold totV totC amtV amtC
  rw [h1, if_pos rfl, if_pos rfl, h2, h3]
  unfold cap64
  rw [h3, if_pos rfl]
  by_cases h : x + v ≤ 1000000000000000
  · exact .inl ⟨h, if_pos ⟨rfl, h⟩, if_pos ⟨rfl, h⟩⟩
  · exact .inr ⟨by omega, if_neg (fun e => h e.2), if_neg (fun e => h e.2)⟩
theorem gr_put {w : World} {b n : Nat} {G : GTab} (h : GrMap w b n G) (hn : n < 1000000) {s : GrpT} (hs : grIn s) {x : Int} (h0 : 0 ≤ x) (hx : x ≤ 1000000000000000) :
    ∃ w', (Instr.mapUpdate 75 (.map (some b)) (grV s) (.int .i64 x)).run Tryd.prog w = .ok () w' ∧ GrMap w' b (n + 1) (updK G s x) ∧ w.grownBy w' (some b) :=
  h.put gr_enc Tryd.underlying75 Tryd.underlying2 (by unfold maxLen; omega) s hs x (WalkArith.wf_i64 (by omega))
theorem gr_look {w w' : World} {b n : Nat} {G : GTab} (h : GrMap w b n G) (hw : w'.heap[b]? = w.heap[b]?) {s : GrpT} (hs : grIn s) :
    (Instr.lookup 75 (.map (some b)) (grV s) false).run Tryd.prog w' = .ok (.int .i64 (getG G s)) w' :=
  h.look hw gr_enc Tryd.underlying75 Tryd.underlying2 (gr_zero _) s hs
/-- an amount was added, or the sum would be too great. -/
def GrAddAt (A : Nat → Addr) (b n : Nat) (G : GTab) (s : GrpT) (v : Int) (w : World) (e : Ending) (w' : World) : Prop :=
  (getG G s + v ≤ 1000000000000000 ∧ e = .returned .nilIface ∧ GrMap w' b (n + 1) (updK G s (getG G s + v)) ∧ Trd (· = b) w w') ∨
  (1000000000000000 < getG G s + v ∧ e = .returned (errAt (A 3)) ∧ Below w.heap.size w w')
theorem below_gr (w : World) (s : GrpT) : Below w.heap.size w (w.alloc (grO s)) := (Below.refl _ w).alloc (Nat.le_refl _) _
set_option maxRecDepth 100000 in
set_option maxHeartbeats 3200000 in
theorem grAdd_any (A : Nat → Addr) (w : World) (b n : Nat) (k : Int) (G : GTab) (h : GrMap w b n G) (hn : n < 1000000) (hG : GrT k G) (s : GrpT) (hs : grIn s) (v : Int) (hv : 0 ≤ v) (hv2 : v ≤ 1000000000000000) (hE : ErrsOn [2, 3] w A) :
    Calls Tryd.prog 35 #[.map (some b), grV s, .int .i64 v] w (GrAddAt A b n G s v w) := by
  have hx := hG.get s
  have hb0 := below_gr w s
  have hlk := gr_look h (w' := w.alloc (grO s)) (heap_alloc_old w _ h.lt) hs
  have hl := hidden (reads_new (k := .i64) (w := w.alloc (grO s)) (e := 2) #[.int .i64 (getG G s), .int .i64 v] [getG G s, v] 2 rfl rfl (by decide))
  have hb1 := hidden (hb0.alloc hb0.size (.cells #[.int .i64 (getG G s), .int .i64 v] 2))
  have hT := hidden (total_any A _ _ _ (hE.below hb1.out (Nat.le_refl _)) hl.out (by simp) (by simp only [List.mem_cons, List.not_mem_nil, or_false]; rintro y (rfl | rfl) <;> omega))
  have hT2 := hT.out
  rw [show (w.alloc (grO s)).heap.size = w.heap.size + 1 by simp] at hT2
  replace hT := hidden hT2
  clear hT2
  have hp := hidden (fun x (h0 : 0 ≤ x) (h1 : x ≤ 1000000000000000) W (hb : Below w.heap.size w W) => gr_put (h.block (hb.block _ h.lt)) hn hs h0 h1)
  have hbt := h.lt
  have hw := tot_two hx.1 hx.2 hv hv2
  unfold GrAddAt
  clear hG hE hl
  replace h := hidden h
  generalize getG G s = x at *
  obtain ⟨s1, s2, s3⟩ := s
  rcases hw with ⟨q1, q2, q3⟩ | ⟨q1, q2, q3⟩
  · rw [q2, q3] at hT
    rw [errOf_fine] at hT
    replace q1 := hidden q1
    clear q2 q3
    go_enter Tryd.func35, Tryd.ntmps35
    go_wp2_with fail
    with_reducible refine hT.out.mono ?_
    rintro r w1 ⟨rfl, m, rfl⟩
    have hb2 := hidden (below_drewN (m := m) hb1.out)
    obtain ⟨w4, hrun, h4, hg4⟩ := hp.out (x + v) (by omega) q1.out _ hb2.out
    replace h4 := hidden h4
    have ht := hidden ((Trd.of_below (S := (· = b)) hb2.out (Nat.le_refl _)).trans (Trd.grown hg4 fun k e => (Option.some.inj e).symm))
    clear hg4 hb2 hb1 hp hT
    go_wp2
    go_ret
    exact .inl ⟨q1.out, rfl, h4.out, ht.out⟩
  · rw [q2, q3, show errOf A 104 = errAt (A 3) from rfl] at hT
    clear q2 q3
    go_enter Tryd.func35, Tryd.ntmps35
    go_wp2_with fail
    with_reducible refine hT.out.mono ?_
    rintro r w1 ⟨rfl, m, rfl⟩
    have hb2 := hidden (below_drewN (m := m) hb1.out)
    go_wp2
    go_ret
    exact .inr ⟨q1, rfl, hb2.out⟩
end Go.Proofs.YtghkmagofadkfaaDoor
