/-
  A Schedule's block; On, Next, All; the document's own On, Next.
-/
import Derived.Test.YtfoiclgipnlfnaaDoorSched1
import Derived.Deep.MidRow
namespace Go.Proofs.YtfoiclgipnlfnaaDoor
open Go.RowKit
set_option linter.unusedVariables false

/-- block g is a schedule with these entries. -/
structure SchAt (w : World) (g : Nat) (l : List En) : Prop where
  ex : ∃ T : List En, T.length = 64 ∧ T.take l.length = l ∧ w.heap[g]? = some (.cells (T.flatMap enV ++ [Value.int .i64 (l.length : Int)]).toArray 28 (0, 0))
  le : l.length ≤ 64
  sorted : SortedE l
section
variable {w w' : World} {g : Nat} {l : List En}
theorem SchAt.lt (h : SchAt w g l) : g < w.heap.size := by
  obtain ⟨T, _, _, hg⟩ := h.ex
  exact (Array.getElem?_eq_some_iff.1 hg).1
theorem SchAt.block (h : SchAt w g l) (hb : w'.heap[g]? = w.heap[g]?) : SchAt w' g l := by
  obtain ⟨T, h1, h2, hg⟩ := h.ex
  exact ⟨⟨T, h1, h2, hb.trans hg⟩, h.le, h.sorted⟩
theorem SchAt.below (h : SchAt w g l) (hb : Below w.heap.size w w') : SchAt w' g l := h.block (hb.block _ h.lt)
theorem SchAt.trd {S : Nat → Prop} (h : SchAt w g l) (ht : Trd S w w') (hg : ¬ S g) : SchAt w' g l := h.block (ht.block _ h.lt hg)
theorem SchAt.drew (h : SchAt w g l) : SchAt w.drew g l := h.block rfl
theorem SchAt.drewN (h : SchAt w g l) (k : Nat) : SchAt (w.drewN k) g l := h.block rfl
theorem tabE_len {T : List En} (hT : T.length = 64) : (T.flatMap enV).length = 192 := by rw [flatR_len enV_len, hT]
theorem SchAt.count (h : SchAt w g l) : w.cell? ⟨g, 192, none⟩ = some (.int .i64 (l.length : Int)) := by
  obtain ⟨T, h1, h2, hg⟩ := h.ex
  rw [cell_of_row _ _ _ _ _ _ hg, List.getElem?_toArray, List.getElem?_append_right (by rw [tabE_len h1]; exact Nat.le_refl _), tabE_len h1]
  rfl
theorem SchAt.row (h : SchAt w g l) : Row enV 3 w (.slice (some ⟨g, 0, none⟩) l.length 64) l := by
  obtain ⟨T, h1, h2, hg⟩ := h.ex
  refine ⟨_, 64, rfl, h.le, by unfold maxLen; omega, (fun h => by cases h), fun ad had i hi => ?_⟩
  obtain rfl := Option.some.inj had
  have hle := h.le
  refine ⟨rfl, ?_⟩
  simp only [Nat.zero_add]
  have e : l.flatMap enV = (T.flatMap enV).take (l.length * 3) := by rw [← flatR_take enV_len, h2]
  rw [cell_of_row _ _ _ _ _ _ hg, List.getElem?_toArray, List.getElem?_append_left (by rw [tabE_len h1]; omega), e, List.getElem?_take, if_pos hi]
theorem SchAt.frozen (h : SchAt w g l) (j : Nat) : w.frozen? ⟨g, j, none⟩ = false := by
  obtain ⟨T, h1, h2, hg⟩ := h.ex
  simp [World.frozen?, hg]
end
/-- an entry's cells at a place. -/
abbrev TriAt (w : World) (b o : Nat) (e : En) : Prop := w.cell? ⟨b, o, none⟩ = some (.int .i64 e.d) ∧ w.cell? ⟨b, o + 1, none⟩ = some (.int .i64 e.c) ∧ w.cell? ⟨b, o + 2, none⟩ = some (.bool e.o)
theorem rowE_at {w : World} {a : Option Addr} {n c : Nat} {l : List En} (h : Row enV 3 w (.slice a n c) l) (k : Nat) (hk : k < n) : ∃ b o, a = some ⟨b, o, none⟩ ∧ TriAt w b (o + k * 3) (l.getD k enZ) := by
  obtain ⟨b, o, rfl, hc⟩ := h.at enV_len enZ k hk (by decide)
  exact ⟨b, o, rfl, hc 0 (by omega), hc 1 (by omega), hc 2 (by omega)⟩
theorem rowE_here {w : World} {g n c : Nat} {l : List En} (h : Row enV 3 w (.slice (some ⟨g, 0, none⟩) n c) l) (k : Nat) (hk : k < n) : TriAt w g (k * 3) (l.getD k enZ) := by
  obtain ⟨b, o, e, hc⟩ := rowE_at h k hk
  simp only [Option.some.injEq, Addr.mk.injEq, and_true] at e
  obtain ⟨rfl, rfl⟩ := e
  simpa using hc
theorem tri_below {w w' : World} {b o : Nat} {e : En} (h : TriAt w b o e) (hb : Below w.heap.size w w') : TriAt w' b o e := by
  obtain ⟨h1, h2, h3⟩ := h
  refine ⟨?_, ?_, ?_⟩ <;> (rw [World.cell?_of_block (w := w) (hb.block _ (World.block_lt_of_cell? w _ (by assumption)))]; assumption)

/-! What is eligible. -/
theorem onE_ways (l : List En) (c t : Int) (k : Nat) (hk : k < l.length) :
    (((l.getD k enZ).c == c) = false ∧ onE (l.take (k + 1)) c t = onE (l.take k) c t) ∨ (((l.getD k enZ).c == c) = true ∧ decide ((l.getD k enZ).d ≤ t) = false ∧ onE (l.take (k + 1)) c t = onE (l.take k) c t) ∨
    (((l.getD k enZ).c == c) = true ∧ decide ((l.getD k enZ).d ≤ t) = true ∧ onE (l.take (k + 1)) c t = (l.getD k enZ).o) := by
  rw [onE_next l c t k hk]
  generalize l.getD k enZ = e
  by_cases h1 : e.c = c
  · by_cases h2 : e.d ≤ t
    · exact .inr (.inr ⟨by simpa using h1, by simpa using h2, if_pos ⟨h1, h2⟩⟩)
    · exact .inr (.inl ⟨by simpa using h1, by simpa using h2, if_neg fun h => h2 h.2⟩)
  · exact .inl ⟨by simpa using h1, if_neg fun h => h1 h.1⟩
def OnRel (l : List En) (c t : Int) (w0 : World) (v i : Value) (w : World) : Prop := ∃ k : Nat, k ≤ l.length ∧ i = .int .i64 (k : Int) ∧ v = .bool (onE (l.take k) c t) ∧ Below w0.heap.size w0 w
set_option maxHeartbeats 1600000 in
theorem on_anyE (l : List En) (g : Nat) (c t : Int) (w : World) (h : SchAt w g l) :
    Calls Tryd.prog 16 #[.pointer (some ⟨g, 0, none⟩), .int .i64 c, .int .i64 t] w fun e w' => e = .returned (.bool (onE l c t)) ∧ Below w.heap.size w w' := by
  have hc := h.count
  have hl := h.le
  have hlI : (l.length : Int) ≤ 64 := by omega
  have hw := hidden (onE_ways l c t)
  have hx := hidden (fun k hk W (hb : Below w.heap.size w W) => rowE_here (h.row.below enV_len hb (Nat.le_refl _)) k hk)
  clear h
  go_enter Tryd.func16, Tryd.ntmps16
  go_wp2_with fail
  go_quiet (fail)
  go_wp2_with fail
  go_loopw [7, 19] (fun v i wr => OnRel l c t w v i wr) (fun _ i _ => l.length - (RowKit.intOf i).toNat)
  case atStart => exact ⟨0, Nat.zero_le _, rfl, rfl, below_drewN (Below.refl _ w)⟩
  case round =>
    obtain ⟨k, hk, rfl, rfl, hb⟩ := hrel
    clear hc
    by_cases hlt : k < l.length
    · obtain ⟨c0, c1, c2⟩ := hx.out k hlt _ hb
      have hw1 := hw.out k hlt
      have hkI : (k : Int) < (l.length : Int) := by omega
      generalize l.getD k enZ = e at *
      replace hb := hidden (hb.alloc hb.size (enO e))
      rcases hw1 with ⟨t1, q⟩ | ⟨t1, t2, q⟩ | ⟨t1, t2, q⟩
      all_goals
        replace q := hidden q
        go_wp2
        go_roundw
        case rel => exact ⟨k + 1, hlt, by go_num, by rw [q.out], hb.out⟩
        case measure => simp [RowKit.intOf]; omega
    · obtain rfl : k = l.length := by omega
      rw [List.take_length]
      replace hb := hidden hb
      go_wp2
      go_ret
      exact ⟨rfl, hb.out⟩

/-! When it turns next. -/
def nxV (q : Option Int) : Value := .tuple #[.int .i64 (q.getD 0), .bool q.isSome]
theorem nxE_ways (l : List En) (c t : Int) (on : Bool) (k : Nat) (hk : k < l.length) :
    (((l.getD k enZ).c == c) = false ∧ nxE (l.drop k) c t on = nxE (l.drop (k + 1)) c t on) ∨
    (((l.getD k enZ).c == c) = true ∧ decide (t < (l.getD k enZ).d) = false ∧ nxE (l.drop k) c t on = nxE (l.drop (k + 1)) c t on) ∨
    (((l.getD k enZ).c == c) = true ∧ decide (t < (l.getD k enZ).d) = true ∧ ((l.getD k enZ).o == on) = true ∧ nxE (l.drop k) c t on = nxE (l.drop (k + 1)) c t on) ∨
    (((l.getD k enZ).c == c) = true ∧ decide (t < (l.getD k enZ).d) = true ∧ ((l.getD k enZ).o == on) = false ∧ nxE (l.drop k) c t on = some (l.getD k enZ).d) := by
  rw [nxE_drop l c t on k hk]
  generalize l.getD k enZ = e
  by_cases h1 : e.c = c
  · by_cases h2 : t < e.d
    · by_cases h3 : e.o = on
      · exact .inr (.inr (.inl ⟨by simpa using h1, by simpa using h2, by simpa using h3, if_neg fun h => h.2.2 h3⟩))
      · exact .inr (.inr (.inr ⟨by simpa using h1, by simpa using h2, by simpa using h3, if_pos ⟨h1, h2, h3⟩⟩))
    · exact .inr (.inl ⟨by simpa using h1, by simpa using h2, if_neg fun h => h2 h.2.1⟩)
  · exact .inl ⟨by simpa using h1, if_neg fun h => h1 h.1⟩
def NxRel (l : List En) (c t : Int) (on : Bool) (w0 : World) (i : Value) (w : World) : Prop := ∃ k : Nat, k ≤ l.length ∧ i = .int .i64 (k : Int) ∧ nxE l c t on = nxE (l.drop k) c t on ∧ Below w0.heap.size w0 w
set_option maxHeartbeats 1600000 in
theorem next_anyE (l : List En) (g : Nat) (c t : Int) (w : World) (h : SchAt w g l) :
    Calls Tryd.prog 12 #[.pointer (some ⟨g, 0, none⟩), .int .i64 c, .int .i64 t] w fun e w' => e = .returned (nxV (nxE l c t (onE l c t))) ∧ Below w.heap.size w w' := by
  have hOn := hidden (on_anyE l g c t w h)
  have hl := h.le
  have hlI : (l.length : Int) ≤ 64 := by omega
  have hcn := hidden (fun W (hb : Below w.heap.size w W) => (h.below hb).count)
  have hx := hidden (fun k hk W (hb : Below w.heap.size w W) => rowE_here (h.row.below enV_len hb (Nat.le_refl _)) k hk)
  clear h
  generalize onE l c t = on at *
  have hw := hidden (nxE_ways l c t on)
  unfold nxV
  go_enter Tryd.func12, Tryd.ntmps12
  go_wp2_with fail
  refine hOn.out.mono ?_
  rintro r w1 ⟨rfl, hb1⟩
  have hc := hcn.out _ hb1
  replace hb1 := hidden hb1
  clear hcn hOn
  go_wp2_with fail
  go_quiet (fail)
  go_wp2_with fail
  go_loopw [24] (fun i wr => NxRel l c t on w i wr) (fun i _ => l.length - (RowKit.intOf i).toNat)
  case atStart => exact ⟨0, Nat.zero_le _, rfl, rfl, below_drewN hb1.out⟩
  case round =>
    obtain ⟨k, hk, rfl, hn, hb⟩ := hrel
    clear hc hb1
    by_cases hlt : k < l.length
    · obtain ⟨c0, c1, c2⟩ := hx.out k hlt _ hb
      have hw1 := hw.out k hlt
      have hkI : (k : Int) < (l.length : Int) := by omega
      generalize l.getD k enZ = e at *
      replace hb := hidden (hb.alloc hb.size (enO e))
      clear hw hx
      rcases hw1 with ⟨t1, q⟩ | ⟨t1, t2, q⟩ | ⟨t1, t2, t3, q⟩ | ⟨t1, t2, t3, q⟩
      iterate 3
        · replace q := hidden (hn.trans q)
          clear hn
          go_wp2
          go_roundw
          case rel => exact ⟨k + 1, hlt, by go_num, q.out, hb.out⟩
          case measure => simp [RowKit.intOf]; omega
      · replace q := hidden (hn.trans q)
        clear hn
        go_wp2
        go_ret2
        exact ⟨by rw [q.out]; rfl, hb.out⟩
    · obtain rfl : k = l.length := by omega
      rw [List.drop_length] at hn
      replace hn := hidden hn
      replace hb := hidden hb
      go_wp2
      go_ret2
      exact ⟨by rw [hn.out]; rfl, hb.out⟩

/-! The document's own. -/
def RefOnRel (l : List En) (c t : Int) (w0 : World) (v i : Value) (w : World) : Prop := ∃ k : Nat, k ≤ l.length ∧ i = .int .i64 (k : Int) ∧ v = .bool (onE (l.take k) c t) ∧ w0 = w
set_option maxHeartbeats 1600000 in
theorem refOn_any (v : Value) (l : List En) (c t : Int) (w : World) (h : Row enV 3 w v l) :
    Calls Tryd.prog 17 #[v, .int .i64 c, .int .i64 t] w fun e w' => e = .returned (.bool (onE l c t)) ∧ w = w' := by
  obtain ⟨a1, c1, rfl⟩ := row_slice h
  obtain ⟨_, hc1, hm1, _⟩ := row_cap h
  have hlm : l.length ≤ 9223372036854775807 := by unfold maxLen at hm1; omega
  have hx := hidden (fun k hk => rowE_at h k hk)
  have hw := hidden (onE_ways l c t)
  clear h hc1 hm1
  go_enter Tryd.func17, Tryd.ntmps17
  go_wp2_with fail
  go_loopw [7, 8] (fun v i wr => RefOnRel l c t w v i wr) (fun _ i _ => l.length - (RowKit.intOf i).toNat)
  case atStart => exact ⟨0, Nat.zero_le _, rfl, rfl, rfl⟩
  case round =>
    obtain ⟨k, hk, rfl, rfl, rfl⟩ := hrel
    by_cases hlt : k < l.length
    · obtain ⟨b, o, rfl, c0, c1, c2⟩ := hx.out k hlt
      have hw1 := hw.out k hlt
      have hkI : (k : Int) < (l.length : Int) := by omega
      generalize l.getD k enZ = e at *
      rcases hw1 with ⟨t1, q⟩ | ⟨t1, t2, q⟩ | ⟨t1, t2, q⟩
      all_goals
        replace q := hidden q
        go_wp2
        go_roundw
        case rel => exact ⟨k + 1, hlt, by go_num, by rw [q.out], rfl⟩
        case measure => simp [RowKit.intOf]; omega
    · obtain rfl : k = l.length := by omega
      rw [List.take_length]
      go_wp2
      go_ret
      exact ⟨rfl, rfl⟩
def RefNxRel (l : List En) (c t : Int) (on : Bool) (w0 : World) (i : Value) (w : World) : Prop := ∃ k : Nat, k ≤ l.length ∧ i = .int .i64 (k : Int) ∧ nxE l c t on = nxE (l.drop k) c t on ∧ w0 = w
set_option maxHeartbeats 1600000 in
theorem refNx_any (v : Value) (l : List En) (c t : Int) (w : World) (h : Row enV 3 w v l) :
    Calls Tryd.prog 13 #[v, .int .i64 c, .int .i64 t] w fun e w' => e = .returned (nxV (nxE l c t (onE l c t))) ∧ w = w' := by
  have hOn := hidden (refOn_any v l c t w h)
  obtain ⟨a1, c1, rfl⟩ := row_slice h
  obtain ⟨_, hc1, hm1, _⟩ := row_cap h
  have hlm : l.length ≤ 9223372036854775807 := by unfold maxLen at hm1; omega
  have hx := hidden (fun k hk => rowE_at h k hk)
  clear h hc1 hm1
  generalize onE l c t = on at *
  have hw := hidden (nxE_ways l c t on)
  unfold nxV
  go_enter Tryd.func13, Tryd.ntmps13
  go_wp2_with fail
  refine hOn.out.mono ?_
  rintro r w1 ⟨rfl, rfl⟩
  clear hOn
  go_wp2_with fail
  go_loopw [9] (fun i wr => RefNxRel l c t on w i wr) (fun i _ => l.length - (RowKit.intOf i).toNat)
  case atStart => exact ⟨0, Nat.zero_le _, rfl, rfl, rfl⟩
  case round =>
    obtain ⟨k, hk, rfl, hn, rfl⟩ := hrel
    by_cases hlt : k < l.length
    · obtain ⟨b, o, rfl, c0, c1, c2⟩ := hx.out k hlt
      have hw1 := hw.out k hlt
      have hkI : (k : Int) < (l.length : Int) := by omega
      generalize l.getD k enZ = e at *
      clear hw hx
      rcases hw1 with ⟨t1, q⟩ | ⟨t1, t2, q⟩ | ⟨t1, t2, t3, q⟩ | ⟨t1, t2, t3, q⟩
      iterate 3
        · replace q := hidden (hn.trans q)
          clear hn
          go_wp2
          go_roundw
          case rel => exact ⟨k + 1, hlt, by go_num, q.out, rfl⟩
          case measure => simp [RowKit.intOf]; omega
      · replace q := hidden (hn.trans q)
        clear hn
        go_wp2
        go_ret2
        exact ⟨by rw [q.out]; rfl, rfl⟩
    · obtain rfl : k = l.length := by omega
      rw [List.drop_length] at hn
      replace hn := hidden hn
      go_wp2
      go_ret2
      exact ⟨by rw [hn.out]; rfl, rfl⟩
end Go.Proofs.YtfoiclgipnlfnaaDoor
