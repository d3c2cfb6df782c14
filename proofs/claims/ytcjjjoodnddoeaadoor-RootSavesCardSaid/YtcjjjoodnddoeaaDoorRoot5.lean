/-
  pledgeref.Ints, SameInts; pledgelaw6's made, same, first: what each answers.
-/
import Derived.Test.YtcjjjoodnddoeaaDoorRoot4
import Derived.Test.YtcjjjoodnddoeaaDoorDisk8
import Derived.Test.YtcjjjoodnddoeaaDoorNumber
namespace Go.Proofs.YtcjjjoodnddoeaaDoor
open Go.RowKit
set_option linter.unusedVariables false

/-- 'append(s, x)' of one element, s of the call's own: as long as it has room at all. -/
theorem wpList_app1w {P : Program} {w : World} {ops : Array Oper} {rest : List Oper} {o : Oper} {a : Act} {Q : Exit → Act → World → Prop} (hgd : o.guard = none) (s x : Operand) (t : TypeId)
    (ho : o.op = .call { callee := .builtin .append, args := #[s, x], argTypes := #[t, t] })
    (e : TypeId) {z : Value} {bytes : Nat} (ht : P.underlying t = some (.slice e)) (hi : (P.info? e).map (fun i => (i.zero, i.size, i.bytes)) = some (some z, 1, bytes)) (hzs : z.cells.size = 1)
    (base : Nat) (v : Value) (n : Nat) (xs : List Value) (hs : a.eval s = v) (hown : w.ownsRow base e 1 v n xs)
    (u : Value) (hx : a.eval x = .slice (some ⟨w.heap.size, 0, none⟩) 1 1) (hone : u.oneCell' = true) (hn : n ≤ 1000000000000000 ∧ (n + 1) * bytes ≤ 140737488355328) (hbase : base ≤ w.heap.size)
    (h : ∀ v' w', w'.ownsRow base e 1 v' (n + 1) (xs ++ [u]) → Below base w w' → wpList P ops Q rest (a.put o.dst v') w') : wpList P ops Q (o :: rest) a (w.alloc (.cells #[u] e)) := by
  obtain ⟨i, hi0, h1, h2, h3⟩ := info_parts hi
  refine wpList_append_own (w.alloc (.cells #[u] e)) hgd s x t ho base e i z 1 bytes ht hi0 h1 h2 h3 hzs (by decide) v n xs hs (hown.alloc _) ⟨w.heap.size, 0, none⟩ 1 1 [u] hx (by simp) (new_cell _ _ _) (by simpa using hone) (by unfold maxLen; omega) hn.2 (by simp; omega) ?_
  intro v' w' h2 h3 _
  exact h v' w' h2 (((Below.refl base w).alloc hbase _).grown h3 (by simp; omega) (fun g hg => (hown.lt g hg).1))
def ivs (l : List Int) : List Value := l.map (Value.int .i64)
theorem ivs_snoc (l : List Int) (x : Int) : ivs (l ++ [x]) = ivs l ++ [.int .i64 x] := by simp [ivs]
def IntsRel (B : Nat) (xs : List Int) (w : World) (v i : Value) (wr : World) : Prop :=
  ∃ k : Nat, i = .int .i64 (k : Int) ∧ k ≤ xs.length ∧ wr.ownsRow B 3 1 v k (ivs (xs.take k)) ∧ Below B w wr
theorem take_snocI (l : List Int) (k : Nat) (h : k < l.length) : l.take (k + 1) = l.take k ++ [l.getD k 0] := by
  rw [List.take_succ_eq_append_getElem h, List.getD_eq_getElem?_getD, List.getElem?_eq_getElem h]; rfl
/-- a list of the call's own. -/
def NewInts (xs : List Int) (w : World) (v : Value) (w' : World) : Prop := Reads .i64 w' v xs ∧ (∀ b, v.ownBlock = some b → w.heap.size ≤ b) ∧ Below w.heap.size w w'
theorem newInts_of {xs : List Int} {w w' : World} {v : Value} (h : w'.ownsRow w.heap.size 3 1 v xs.length (ivs xs)) (hb : Below w.heap.size w w') : NewInts xs w v w' := by
  refine ⟨reads_of_own h, fun b hv => ?_, hb⟩
  rcases h.2 with ⟨rfl, _⟩ | ⟨g, cap, cur, rfl, hg, _⟩
  · cases hv
  · cases hv; exact hg
set_option maxHeartbeats 800000 in
theorem ints_any (v : Value) (xs : List Int) (w : World) (h : Reads .i64 w v xs) (hx : xs.length ≤ 17592186043904) :
    Calls Tryd.prog 26 #[v] w fun e w' => ∃ v', e = .returned v' ∧ NewInts xs w v' w' := by
  have hr := hidden h
  obtain ⟨a, n, c, rfl, en, hnc, hcm, hn, _⟩ := h
  subst en
  clear hn
  obtain ⟨i0, hi, hz0, hz1, hz2⟩ := info_parts infoI64
  go_enter Tryd.func26, Tryd.ntmps26
  go_wp2_with (at_make; refine wpList_make_own _ rfl _ _ 22 rfl w.heap.size 3 i0 (.int .i64 0) 1 Tryd.underlying22 hi hz0 hz1 .i64 .i64 _ xs.length rfl rfl rfl ?c1 ?c2 ?c3 ?_)
  case c1 => rw [hz2]; omega
  case c2 => unfold maxLen; omega
  case c3 => exact Nat.le_refl _
  intro w1 hown1 hg1
  have hb1 : Below w.heap.size w w1 := (Below.refl _ _).grown hg1 (Nat.le_refl _) (fun _ h => by cases h)
  clear hg1
  go_wp2_with fail
  go_loopw [3, 4] (fun v i wr => IntsRel w.heap.size xs w v i wr) (fun _ i _ => xs.length - (intOf i).toNat)
  case atStart => exact ⟨0, rfl, Nat.zero_le _, by simpa [ivs] using hown1, hb1⟩
  case round =>
    obtain ⟨k, rfl, hk, hownk, hbk⟩ := hrel
    clear hown1 hb1
    have hB := hbk.size
    by_cases hlt : k < xs.length
    · obtain ⟨bl, ol, rfl, hc⟩ := (hr.out.below hbk (Nat.le_refl _)).cell k hlt
      have htk := hidden (take_snocI xs k hlt)
      generalize xs.getD k 0 = x at hc htk
      go_wp2_with (at_builtin; refine wpList_app1w rfl _ _ 22 rfl 3 Tryd.underlying22 infoI64 rfl w.heap.size _ _ _ rfl hownk _ rfl rfl ?_ hB ?_)
      case _ => omega
      intro v2 w2 hown2 hb2
      go_wp2
      go_roundw
      case rel =>
        refine ⟨k + 1, by go_num, hlt, ?_, hbk.trans hb2⟩
        rw [htk.out, ivs_snoc]
        exact hown2
      case measure => simp [intOf]; omega
    · go_wp2
      go_ret
      have e : xs.take k = xs := List.take_of_length_le (by omega)
      obtain rfl : k = xs.length := by omega
      rw [e] at hownk
      exact ⟨_, rfl, newInts_of hownk hbk⟩
/-! pledgeref.Bytes -/
theorem infoU8 : (Tryd.prog.info? 5).map (fun i => (i.zero, i.size, i.bytes)) = some (some (.int .u8 0), 1, 1) := by kernel_rfl
theorem secV_snoc (l : List Int) (x : Int) : secV (l ++ [x]) = secV l ++ [.int .u8 x] := by simp [secV]
def BytesCopyRel (B : Nat) (xs : List Int) (w : World) (v i : Value) (wr : World) : Prop :=
  ∃ k : Nat, i = .int .i64 (k : Int) ∧ k ≤ xs.length ∧ wr.ownsRow B 5 1 v k (secV (xs.take k)) ∧ Below B w wr
set_option maxHeartbeats 800000 in
theorem refBytes_any (v : Value) (xs : List Int) (w : World) (h : Reads .u8 w v xs) (hx : xs.length ≤ 1000000) :
    Calls Tryd.prog 13 #[v] w fun e w' => ∃ v', e = .returned v' ∧ w'.ownsRow w.heap.size 5 1 v' xs.length (secV xs) ∧ Below w.heap.size w w' := by
  have hr := hidden h
  obtain ⟨a, n, c, rfl, en, hnc, hcm, hn, _⟩ := h
  subst en
  clear hn
  obtain ⟨i0, hi, hz0, hz1, hz2⟩ := info_parts infoU8
  go_enter Tryd.func13, Tryd.ntmps13
  go_wp2_with (at_make; refine wpList_make_own _ rfl _ _ 24 rfl w.heap.size 5 i0 (.int .u8 0) 1 Tryd.underlying24 hi hz0 hz1 .i64 .i64 _ xs.length rfl rfl rfl ?c1 ?c2 ?c3 ?_)
  case c1 => rw [hz2]; omega
  case c2 => unfold maxLen; omega
  case c3 => exact Nat.le_refl _
  intro w1 hown1 hg1
  have hb1 : Below w.heap.size w w1 := (Below.refl _ _).grown hg1 (Nat.le_refl _) (fun _ h => by cases h)
  clear hg1
  go_wp2_with fail
  go_loopw [3, 4] (fun v i wr => BytesCopyRel w.heap.size xs w v i wr) (fun _ i _ => xs.length - (intOf i).toNat)
  case atStart => exact ⟨0, rfl, Nat.zero_le _, by simpa [secV] using hown1, hb1⟩
  case round =>
    obtain ⟨k, rfl, hk, hownk, hbk⟩ := hrel
    clear hown1 hb1
    have hB := hbk.size
    by_cases hlt : k < xs.length
    · obtain ⟨bl, ol, rfl, hc⟩ := (hr.out.below hbk (Nat.le_refl _)).cell k hlt
      have htk := hidden (take_snocI xs k hlt)
      generalize xs.getD k 0 = x at hc htk
      go_wp2_with (at_builtin; refine wpList_app1 rfl _ _ 24 rfl 5 Tryd.underlying24 infoU8 rfl (by decide) w.heap.size _ _ _ rfl hownk _ rfl rfl ?_ hB ?_)
      case _ => omega
      intro v2 w2 hown2 hb2
      go_wp2
      go_roundw
      case rel =>
        refine ⟨k + 1, by go_num, hlt, ?_, hbk.trans hb2⟩
        rw [htk.out, secV_snoc]
        exact hown2
      case measure => simp [intOf]; omega
    · go_wp2
      go_ret
      have e : xs.take k = xs := List.take_of_length_le (by omega)
      obtain rfl : k = xs.length := by omega
      rw [e] at hownk
      exact ⟨_, rfl, hownk, hbk⟩
def SameIRel (xs ys : List Int) (w : World) (i : Value) (wr : World) : Prop :=
  ∃ k : Nat, i = .int .i64 (k : Int) ∧ k ≤ xs.length ∧ xs.take k = ys.take k ∧ ∃ m, wr = w.drewN m
set_option maxHeartbeats 1600000 in
theorem sameInts_any (v u : Value) (xs ys : List Int) (w : World) (h : Reads .i64 w v xs) (h2 : Reads .i64 w u ys) (hx : xs.length ≤ 1000000000) :
    Calls Tryd.prog 31 #[v, u] w fun e w' => e = .returned (.bool (decide (xs = ys))) ∧ ∃ m, w' = w.drewN m := by
  have hr := hidden h
  have hr2 := hidden h2
  obtain ⟨a, n, c, rfl, en, hnc, hcm, hn, _⟩ := h
  obtain ⟨a2, n2, c2, rfl, en2, hnc2, hcm2, hn2, _⟩ := h2
  subst en
  subst en2
  clear hn hn2
  by_cases hlen : xs.length = ys.length
  · have hne : ((xs.length : Int) != (ys.length : Int)) = false := by rw [hlen]; simp
    have hlen' := hidden hlen
    clear hlen
    go_enter Tryd.func31, Tryd.ntmps31
    go_wp2_with fail
    go_loopw [5] (fun i wr => SameIRel xs ys w i wr) (fun i _ => xs.length - (RowKit.intOf i).toNat)
    case atStart => exact ⟨0, rfl, Nat.zero_le _, by simp, 0, rfl⟩
    case round =>
      obtain ⟨k, rfl, hk, htk, m, rfl⟩ := hrel
      have htk' := hidden htk
      clear htk
      by_cases hlt : k < xs.length
      · have hlt2 : k < ys.length := by have := hlen'.out; omega
        obtain ⟨bl, ol, rfl, hc⟩ := hr.out.cell k hlt
        obtain ⟨bl2, ol2, rfl, hc2⟩ := hr2.out.cell k hlt2
        have hlt3 : (k : Int) < (xs.length : Int) := by omega
        have hlt4 : (k : Int) < (ys.length : Int) := by omega
        have ht1 := hidden (take_snocI xs k hlt)
        have ht2 := hidden (take_snocI ys k hlt2)
        have hx1 := hidden (show xs[k]? = some (xs.getD k 0) by rw [List.getD_eq_getElem?_getD, List.getElem?_eq_getElem hlt]; rfl)
        have hx2 := hidden (show ys[k]? = some (ys.getD k 0) by rw [List.getD_eq_getElem?_getD, List.getElem?_eq_getElem hlt2]; rfl)
        generalize xs.getD k 0 = x at hc ht1 hx1
        generalize ys.getD k 0 = y at hc2 ht2 hx2
        by_cases hxy : x = y
        · subst hxy
          have hbb : (x == x) = true := beq_self_eq_true x
          go_wp2_with fail
          go_quiet (fail)
          go_wp2
          go_roundw
          case rel => exact ⟨k + 1, by go_num, hlt, by rw [ht1.out, ht2.out, htk'.out], _, rfl⟩
          case measure => simp [RowKit.intOf]; omega
        · have hbb : (x == y) = false := by rw [beq_eq_false_iff_ne]; exact hxy
          have hfin := hidden (show decide (xs = ys) = false by
            rw [decide_eq_false_iff_not]
            intro e
            rw [e] at hx1
            have := hx1.out.symm.trans hx2.out
            exact hxy (Option.some.inj this))
          clear hxy
          go_wp2_with fail
          go_quiet (fail)
          go_wp2
          go_ret
          exact ⟨by rw [hfin.out]; rfl, _, rfl⟩
      · have hfin := hidden (show decide (xs = ys) = true by
          rw [decide_eq_true_iff]
          have e1 : xs.take k = xs := List.take_of_length_le (by omega)
          have e2 : ys.take k = ys := List.take_of_length_le (by have := hlen'.out; omega)
          rw [← e1, ← e2]; exact htk'.out)
        go_wp2
        go_ret
        exact ⟨by rw [hfin.out]; rfl, m, rfl⟩
  · have hne : ((xs.length : Int) != (ys.length : Int)) = true := by rw [bne_iff_ne]; omega
    have hfin := hidden (show decide (xs = ys) = false by
      rw [decide_eq_false_iff_not]
      intro e
      exact hlen (by rw [e]))
    clear hlen
    go_enter Tryd.func31, Tryd.ntmps31
    go_wp2
    go_ret
    exact ⟨by rw [hfin.out]; rfl, 0, rfl⟩

/-! made -/
theorem root_end1 {fn : Func} {p : Tmp} {R : Ending → World → Prop} {a : Act} {w : World} {g : Nat} {e : Int} {l : Value} (h : fn.results = #[.cell p 30]) (hd : a.defers = []) (hp : a.tmps.getD p undef = .pointer (some ⟨g, 0, none⟩)) (hg : w.heap[g]? = some (rtO e l))
    (hR : R (.returned (.agg #[.int .i64 e, l])) w) : bodyPost Tryd.prog fn R .ret a w :=
  bodyPost_ret (results_cell_row h _ _ _ _ _ _ _ hp hg Tryd.underlying30 rfl root_size) hd hR
theorem NewInts.set {xs : List Int} {w w1 : World} {v : Value} {o : Obj} (hr : Reads .i64 w1 v xs) (hf : ∀ b, v.ownBlock = some b → (w.alloc o).heap.size ≤ b) (hb : Below w.heap.size w w1) (x y : Value) : NewInts xs w v ((w1.setCell ⟨w.heap.size, 0, none⟩ x).setCell ⟨w.heap.size, 1, none⟩ y) := by
  have h1 : ∀ b, v.ownBlock = some b → w.heap.size < b := fun b hb => by have := hf b hb; simp at this; omega
  refine ⟨reads_setCell (reads_setCell hr fun b hb => ?_) fun b hb => ?_, fun b hb => Nat.le_of_lt (h1 b hb), (hb.setCell (Nat.le_refl _) _).setCell (Nat.le_refl _) _⟩
  · have := h1 b hb; show b ≠ w.heap.size; omega
  · have := h1 b hb; show b ≠ w.heap.size; omega
def MadeAt (e : Int) (xs : List Int) (w : World) (r : Ending) (w' : World) : Prop := ∃ v, r = .returned (.agg #[.int .i64 e, v]) ∧ NewInts xs w v w'
theorem made_any (e : Int) (v : Value) (xs : List Int) (w : World) (h : Reads .i64 w v xs) (hx : xs.length ≤ 17592186043904) : Calls Tryd.prog 9 #[.int .i64 e, v] w (MadeAt e xs w) := by
  have hb0 := hidden ((Below.refl w.heap.size w).alloc (Nat.le_refl _) (rtO 0 (.slice none 0 0)))
  have hI := hidden (ints_any v xs _ (h.below hb0.out (Nat.le_refl _)) hx)
  have hbx := hidden (fun W hW => boxAt_of (w := w) (W := W) (e := 0) (l := .slice none 0 0) hW)
  have hg := hidden (fun W (hW : Below (w.alloc (rtO 0 (.slice none 0 0))).heap.size (w.alloc (rtO 0 (.slice none 0 0))) W) => show W.heap[w.heap.size]? = some (rtO 0 (.slice none 0 0)) by
    rw [hW.block _ (by simp)]; exact heap_alloc_new w _)
  clear h
  go_enter Tryd.func9, Tryd.ntmps9
  go_wp2_with fail
  refine hI.out.mono ?_
  rintro r w1 ⟨v1, rfl, hr1, hf1, hb1⟩
  obtain ⟨va, vc, rfl⟩ := reads_slice hr1
  have hx1 := hidden (hbx.out _ hb1)
  have hg1 := hg.out _ hb1
  have c0 := hx1.out.c0
  have c1 := hx1.out.c1
  have f0 : w1.frozen? ⟨w.heap.size, 0, none⟩ = false := by simp [World.frozen?, hg1]
  have f1 : w1.frozen? ⟨w.heap.size, 1, none⟩ = false := by simp [World.frozen?, hg1]
  replace hg1 := hidden hg1
  replace hr1 := hidden hr1
  replace hf1 := hidden hf1
  clear hb1 hI hb0
  go_wp2_with fail
  exact root_end1 rfl rfl rfl (root_stored hg1.out _ _) ⟨_, rfl, NewInts.set hr1.out hf1.out hx1.out.low _ _⟩
/-! same -/
theorem same_root (e f : Int) (u v : Value) (xs ys : List Int) (w : World) (h : Reads .i64 w u xs) (h2 : Reads .i64 w v ys) (hx : xs.length ≤ 1000000) :
    Calls Tryd.prog 14 #[.agg #[.int .i64 e, u], .agg #[.int .i64 f, v]] w fun r w' => r = .returned (.bool (decide (e = f ∧ xs = ys))) ∧ Below w.heap.size w w' := by
  obtain ⟨ua, uc, rfl⟩ := reads_slice h
  obtain ⟨va, vc, rfl⟩ := reads_slice h2
  have hb := hidden (fun o o' => ((Below.refl w.heap.size w).alloc (Nat.le_refl _) o).alloc (by simp) o')
  by_cases he : e = f
  · subst he
    have hS := hidden (fun o o' => sameInts_any _ _ xs ys _ (h.below (hb.out o o') (Nat.le_refl _)) (h2.below (hb.out o o') (Nat.le_refl _)) (by omega))
    have hee : (e == e) = true := beq_self_eq_true e
    have hd := hidden (show decide (e = e ∧ xs = ys) = decide (xs = ys) by simp)
    clear h h2
    go_enter Tryd.func14, Tryd.ntmps14
    go_wp2_with fail
    refine (hS.out _ _).mono ?_
    rintro r w' ⟨rfl, m, rfl⟩
    go_wp2
    go_ret
    exact ⟨by rw [hd.out]; rfl, below_drewN (hb.out _ _)⟩
  · have hee : (e == f) = false := by rw [beq_eq_false_iff_ne]; exact he
    have hd := hidden (show decide (e = f ∧ xs = ys) = false by simp [he])
    clear h h2 he
    go_enter Tryd.func14, Tryd.ntmps14
    go_wp2
    go_ret
    exact ⟨by rw [hd.out]; rfl, hb.out _ _⟩
end Go.Proofs.YtcjjjoodnddoeaaDoor
