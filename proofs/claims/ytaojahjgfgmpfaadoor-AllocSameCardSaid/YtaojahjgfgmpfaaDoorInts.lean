/-
  pledgeref.Ints: a copy in new memory; a cell of it written.
-/
import Derived.Test.YtaojahjgfgmpfaaDoorMem
import Derived.Test.YtaojahjgfgmpfaaDoorSameInts
namespace Go.Proofs.YtaojahjgfgmpfaaDoor
open Go.RowKit
set_option linter.unusedVariables false

theorem infoI64 : (Tryd.prog.info? 3).map (fun i => (i.zero, i.size, i.bytes)) = some (some (.int .i64 0), 1, 8) := by kernel_rfl
/-- 'append(s, x)' of one element, s of the call's own: as long as it has room at all. -/
theorem wpList_app1w {P : Program} {w : World} {ops : Array Oper} {rest : List Oper} {o : Oper} {a : Act} {Q : Exit → Act → World → Prop} (hgd : o.guard = none) (s x : Operand) (t : TypeId)
    (ho : o.op = .call { callee := .builtin .append, args := #[s, x], argTypes := #[t, t] })
    (e : TypeId) {z : Value} {bytes : Nat} (ht : P.underlying t = some (.slice e)) (hi : (P.info? e).map (fun i => (i.zero, i.size, i.bytes)) = some (some z, 1, bytes)) (hzs : z.cells.size = 1)
    (base : Nat) (v : Value) (n : Nat) (xs : List Value) (hs : a.eval s = v) (hown : w.ownsRow base e 1 v n xs)
    (u : Value) (hx : a.eval x = .slice (some ⟨w.heap.size, 0, none⟩) 1 1) (hone : u.oneCell' = true) (hn : n ≤ 1000000000000000 ∧ (n + 1) * bytes ≤ 140737488355328) (hbase : base ≤ w.heap.size)
    (h : ∀ v' w', w'.ownsRow base e 1 v' (n + 1) (xs ++ [u]) → Below base w w' → wpList P ops Q rest (a.put o.dst v') w') : wpList P ops Q (o :: rest) a (w.alloc (.cells #[u] e)) := by
  obtain ⟨i, hi0, h1, h2, h3⟩ := info_parts hi
  refine wpList_append_own (w.alloc (.cells #[u] e)) hgd s x t ho base e i z 1 bytes ht hi0 h1 h2 h3 hzs (by decide) v n xs hs (hown.alloc _) ⟨w.heap.size, 0, none⟩ 1 1 [u] hx (by simp) (new_cell _ _ _) (by simpa using hone) (by unfold maxLen; omega) hn.2 (by simp; omega) ?_
  intro v' w' h2 h3 _
  exact h v' w' h2 (((Below.refl base w).alloc hbase _).grown h3 (by simp; omega) (fun g hg => (hown.lt g hg).1))
def ivs (l : List Int) : List Value := l.map (Value.int .i64)
theorem ivs_snoc (l : List Int) (x : Int) : ivs (l ++ [x]) = ivs l ++ [.int .i64 x] := by simp [ivs]
def IntsRel (B : Nat) (xs : List Int) (w : World) (v i : Value) (wr : World) : Prop :=
  ∃ k : Nat, i = .int .i64 (k : Int) ∧ k ≤ xs.length ∧ wr.ownsRow B 3 1 v k (ivs (xs.take k)) ∧ Below B w wr
/-- a list of the call's own. -/
def NewInts (xs : List Int) (w : World) (v : Value) (w' : World) : Prop := Reads .i64 w' v xs ∧ (∀ b, v.ownBlock = some b → w.heap.size ≤ b) ∧ Below w.heap.size w w'
theorem newInts_of {xs : List Int} {w w' : World} {v : Value} (h : w'.ownsRow w.heap.size 3 1 v xs.length (ivs xs)) (hb : Below w.heap.size w w') : NewInts xs w v w' := by
  refine ⟨reads_of_own h, fun b hv => ?_, hb⟩
  rcases h.2 with ⟨rfl, _⟩ | ⟨g, cap, cur, rfl, hg, _⟩
  · cases hv
  · cases hv; exact hg
set_option maxHeartbeats 800000 in
theorem ints_own (v : Value) (xs : List Int) (w : World) (h : Reads .i64 w v xs) (hx : xs.length ≤ 17592186043904) :
    Calls Tryd.prog 52 #[v] w fun e w' => ∃ v', e = .returned v' ∧ w'.ownsRow w.heap.size 3 1 v' xs.length (ivs xs) ∧ Below w.heap.size w w' := by
  have hr := hidden h
  obtain ⟨a, n, c, rfl, en, hnc, hcm, hn, _⟩ := h
  subst en
  clear hn
  obtain ⟨i0, hi, hz0, hz1, hz2⟩ := info_parts infoI64
  go_enter Tryd.func52, Tryd.ntmps52
  go_wp2_with (at_make; refine wpList_make_own _ rfl _ _ 32 rfl w.heap.size 3 i0 (.int .i64 0) 1 Tryd.underlying32 hi hz0 hz1 .i64 .i64 _ xs.length rfl rfl rfl ?c1 ?c2 ?c3 ?_)
  case c1 => rw [hz2]; omega
  case c2 => unfold maxLen; omega
  case c3 => exact Nat.le_refl _
  intro w1 hown1 hg1
  have hb1 : Below w.heap.size w w1 := (Below.refl _ _).grown hg1 (Nat.le_refl _) (fun _ h => by cases h)
  clear hg1
  go_wp2_with fail
  go_loopw [3, 4] (fun v i wr => IntsRel w.heap.size xs w v i wr) (fun _ i _ => xs.length - (intOf i).toNat)
  case atStart => exact ⟨0, rfl, Nat.zero_le _, by simpa [ivs] using hown1, hb1⟩
  case round =>
    obtain ⟨k, rfl, hk, hownk, hbk⟩ := hrel
    clear hown1 hb1
    have hB := hbk.size
    by_cases hlt : k < xs.length
    · obtain ⟨bl, ol, rfl, hc⟩ := (hr.out.below hbk (Nat.le_refl _)).cell k hlt
      have htk := hidden (take_snocI xs k hlt)
      generalize xs.getD k 0 = x at hc htk
      go_wp2_with (at_builtin; refine wpList_app1w rfl _ _ 32 rfl 3 Tryd.underlying32 infoI64 rfl w.heap.size _ _ _ rfl hownk _ rfl rfl ?_ hB ?_)
      case _ => omega
      intro v2 w2 hown2 hb2
      go_wp2
      go_roundw
      case rel =>
        refine ⟨k + 1, by go_num, hlt, ?_, hbk.trans hb2⟩
        rw [htk.out, ivs_snoc]
        exact hown2
      case measure => simp [intOf]; omega
    · go_wp2
      go_ret
      have e : xs.take k = xs := List.take_of_length_le (by omega)
      obtain rfl : k = xs.length := by omega
      rw [e] at hownk
      exact ⟨_, rfl, hownk, hbk⟩
theorem ints_any (v : Value) (xs : List Int) (w : World) (h : Reads .i64 w v xs) (hx : xs.length ≤ 17592186043904) :
    Calls Tryd.prog 52 #[v] w fun e w' => ∃ v', e = .returned v' ∧ NewInts xs w v' w' :=
  (ints_own v xs w h hx).mono fun e w' ⟨v', a, b, c⟩ => ⟨v', a, newInts_of b c⟩
/-- a cell of a row of one's own is written. -/
theorem own_put {w : World} {base : Nat} {v : Value} {l : List Int} {i : Nat} (h : w.ownsRow base 3 1 v l.length (ivs l)) (hi : i < l.length) (x : Int) :
    ∃ g c, v = .slice (some ⟨g, 0, none⟩) l.length c ∧ base ≤ g ∧ g < w.heap.size ∧ w.frozen? ⟨g, i, none⟩ = false ∧ w.cell? ⟨g, i, none⟩ = some (.int .i64 (l.getD i 0)) ∧ (w.setCell ⟨g, i, none⟩ (.int .i64 x)).ownsRow base 3 1 v l.length (ivs (l.set i x)) := by
  obtain ⟨h1, h2⟩ := h
  rcases h2 with ⟨rfl, h0⟩ | ⟨g, cap, cur, rfl, hb, hg, hn, hc, hs, ht⟩
  · omega
  · have hlt := (Array.getElem?_eq_some_iff.1 hg).1
    have hsz : i < cur.size := by
      have : cur.size = cap * 1 := hs
      omega
    have hci : cur[i]? = some (.int .i64 (l.getD i 0)) := by
      have e1 : (cur.toList.take (l.length * 1))[i]? = (ivs l)[i]? := by rw [ht]
      rw [List.getElem?_take, if_pos (by omega)] at e1
      rw [← Array.getElem?_toList, e1, ivs, List.getElem?_map, List.getD_eq_getElem?_getD, List.getElem?_eq_getElem hi]
      rfl
    refine ⟨g, cap, rfl, hb, hlt, by simp [World.frozen?, hg], by rw [cell_of_row _ _ _ _ _ _ hg]; exact hci, ?_⟩
    refine ⟨by simp [ivs], .inr ⟨g, cap, cur.setIfInBounds i (.int .i64 x), rfl, hb, heap_setCell_row hg _, hn, hc, by rw [Array.size_setIfInBounds]; exact hs, ?_⟩⟩
    rw [Array.toList_setIfInBounds, List.take_set, ht]
    simp [ivs]
theorem own_slice18 {w : World} {base : Nat} {e : TypeId} {v : Value} {n : Nat} {xs : List Value} (h : w.ownsRow base e 1 v n xs) : ∃ a c, v = .slice a n c := by
  rcases h.2 with ⟨rfl, rfl⟩ | ⟨g, cap, cur, rfl, _⟩
  · exact ⟨_, _, rfl⟩
  · exact ⟨_, _, rfl⟩
end Go.Proofs.YtaojahjgfgmpfaaDoor
