/-
  slices.Clone at entries, All; a copy in new memory; the same entries; slices.BinarySearchFunc at entries.
-/
import Derived.Test.YtfoiclgipnlfnaaDoorSched2
import Derived.Test.YtfoiclgipnlfnaaDoorStep
namespace Go.Proofs.YtfoiclgipnlfnaaDoor
open Go.RowKit
set_option linter.unusedVariables false

theorem infoEn : (Tryd.prog.info? 25).map (fun i => (i.zero, i.size, i.bytes)) = some (some (enA enZ), 3, 24) := by kernel_rfl
/-- the rows of entries that a call makes. -/
abbrev OwnEn (B : Nat) (w : World) (v : Value) (l : List En) : Prop := OwnR enV 3 25 B w v l
def EnsAt (l : List En) (w : World) (e : Ending) (w' : World) : Prop := ∃ v, e = .returned v ∧ OwnEn w.heap.size w' v l ∧ Below w.heap.size w w'
theorem cloneE_any (ad : Addr) (c : Nat) (l : List En) (w : World) (h : Row enV 3 w (.slice (some ad) l.length c) l) (hl : l.length ≤ 1000) :
    Calls Tryd.prog 28 #[.slice (some ad) l.length c] w (EnsAt l w) := by
  have hb0 := hidden ((Below.refl w.heap.size w).alloc (Nat.le_refl _) (.cells #[] 25))
  have hr := hidden (h.below enV_len hb0.out (Nat.le_refl _))
  have how : OwnEn w.heap.size (w.alloc (.cells #[] 25)) (.slice (some ⟨w.heap.size, 0, none⟩) 0 0) [] := World.ownsRow_made w #[] 0 (Nat.le_refl _) (by decide) rfl
  replace how := hidden how
  have hB := hidden (show w.heap.size ≤ (w.alloc (.cells #[] 25)).heap.size from hb0.out.size)
  have hnil : ∀ w, (binOp .eql 22 (.slice (some ad) l.length c) (.slice none 0 0)).run Tryd.prog w = .ok (.bool false) w := fun w => Go.Lib.run_eql_slice_nil w _ _ _ _ _ _ _ Tryd.underlying22
  clear h
  go_enter Tryd.func28, Tryd.ntmps28
  go_wp2_with (at_builtin; refine wpList_appR rfl _ _ 22 rfl enV_len enV_one (by decide) 25 Tryd.underlying22 infoEn rfl (by decide) w.heap.size _ ([] : List En) rfl how.out (ys := l) rfl hr.out (by simp) (by omega) hB.out ?_)
  intro v2 w2 hown2 hb2
  replace hown2 := hidden hown2
  replace hb2 := hidden (hb0.out.trans hb2)
  go_wp2
  go_ret
  exact ⟨_, rfl, hown2.out, hb2.out⟩
abbrev CntS (w0 : World) (g n : Nat) (W : World) : Prop := W.cell? ⟨g, 192, none⟩ = some (.int .i64 (n : Int)) ∧ Below w0.heap.size w0 W
theorem cntS_drew {w0 W : World} {g n : Nat} (h : CntS w0 g n W) : CntS w0 g n W.drew := ⟨h.1, h.2.drew⟩
theorem cntS_next {w0 W W' : World} {g n : Nat} (h : CntS w0 g n W) (hb : Below W.heap.size W W') : CntS w0 g n W' := by
  refine ⟨?_, h.2.trans (hb.mono h.2.size)⟩
  rw [World.cell?_of_block (w := W) (hb.block _ (World.block_lt_of_cell? W _ h.1))]; exact h.1
theorem cntS_low {w0 W : World} {g n : Nat} (h : CntS w0 g n W) : Below w0.heap.size w0 W := h.2
set_option maxHeartbeats 1600000 in
theorem all_anyE (l : List En) (g : Nat) (w : World) (h : SchAt w g l) : Calls Tryd.prog 15 #[.pointer (some ⟨g, 0, none⟩)] w (EnsAt l w) := by
  have hl := h.le
  have hlI : (l.length : Int) ≤ 64 := by omega
  have hC := hidden (fun W (hb : Below w.heap.size w W) => cloneE_any ⟨g, 0, none⟩ 64 l W (h.row.below enV_len hb (Nat.le_refl _)) (by omega))
  have hs0 := hidden (show CntS w g l.length w from ⟨h.count, Below.refl _ w⟩)
  clear h
  go_enter Tryd.func15, Tryd.ntmps15
  go_wp2_with fail
  go_region_held3 (fun W => W.cell? ⟨g, 192, none⟩ = some (.int .i64 (l.length : Int)) ∧ Below w.heap.size w W)
    ((first | exact cntS_drew hs0.out | assumption | exact cntS_next (by assumption) hb3))
    ((go_at_call 28; (with_reducible refine (hC.out _ (cntS_low (by assumption))).mono ?_); rintro r w3 ⟨v3, rfl, hown3, hb3⟩; replace hown3 := hown3.from (cntS_low (by assumption)).size))
  rename_i hh
  have hend := hidden (cntS_low hh)
  replace hown3 := hidden hown3
  clear hh hs0 hC
  go_wp2
  go_ret
  exact ⟨_, rfl, hown3.out, hend.out⟩

/-! The document's own: a copy; the same. -/
def CopyEnRel (B : Nat) (l : List En) (w : World) (v i : Value) (wr : World) : Prop := ∃ k : Nat, i = .int .i64 (k : Int) ∧ k ≤ l.length ∧ OwnEn B wr v (l.take k) ∧ Below B w wr
set_option maxHeartbeats 1600000 in
theorem entrys_any (v : Value) (l : List En) (w : World) (h : Row enV 3 w v l) (hl : l.length ≤ 1000) : Calls Tryd.prog 20 #[v] w (EnsAt l w) := by
  obtain ⟨a1, c1, rfl⟩ := row_slice h
  have hx1 := hidden (fun k hk W (hb : Below w.heap.size w W) => rowE_at (h.below enV_len hb (Nat.le_refl _)) k hk)
  clear h
  obtain ⟨i0, hi, hz0, hz1, hz2⟩ := info_parts infoEn
  go_enter Tryd.func20, Tryd.ntmps20
  go_wp2_with (at_make; refine wpList_make_own _ rfl _ _ 22 rfl w.heap.size 25 i0 (enA enZ) 3 Tryd.underlying22 hi hz0 hz1 .i64 .i64 _ l.length rfl rfl rfl ?c1 ?c2 ?c3 ?_)
  case c1 => rw [hz2]; omega
  case c2 => unfold maxLen; omega
  case c3 => exact Nat.le_refl _
  intro w1 hown1 hg1
  have hb1 := hidden (show Below w.heap.size w w1 from (Below.refl _ _).grown hg1 (Nat.le_refl _) (fun _ h => by cases h))
  replace hown1 := hidden hown1
  clear hg1
  go_wp2_with fail
  go_loopw [3, 4] (fun v i wr => CopyEnRel w.heap.size l w v i wr) (fun _ i _ => l.length - (intOf i).toNat)
  case atStart => exact ⟨0, rfl, Nat.zero_le _, by simpa [OwnR] using hown1.out, hb1.out⟩
  case round =>
    obtain ⟨k, rfl, hk, hownk, hbk⟩ := hrel
    clear hown1 hb1
    replace hownk := hidden hownk
    by_cases hlt : k < l.length
    · obtain ⟨b, o, rfl, c0, c1, c2⟩ := hx1.out k hlt _ hbk
      replace hbk := hidden hbk
      have hlI : (k : Int) < (l.length : Int) := by omega
      have htk := hidden (takeE_next l k hlt)
      have hlk := hidden (show (l.take k).length ≤ 1000000 by simp; omega)
      have hB := hidden hbk.out.size
      generalize l.getD k enZ = x at *
      go_wp2_with (at_builtin; refine wpList_appR1 rfl _ _ 22 rfl enV_len enV_one (by decide) 25 Tryd.underlying22 infoEn rfl (by decide) w.heap.size _ (l.take k) rfl hownk.out x _ rfl _ rfl rfl hlk.out hB.out ?_)
      intro v2 w2 hown2 hb2
      replace hown2 := hidden hown2
      replace hb2 := hidden (hbk.out.trans hb2)
      go_wp2
      go_roundw
      case rel => exact ⟨k + 1, by go_num, hlt, by rw [htk.out]; exact hown2.out, hb2.out⟩
      case measure => simp [intOf]; omega
    · obtain rfl : k = l.length := by omega
      rw [List.take_length] at hownk
      replace hbk := hidden hbk
      go_wp2
      go_ret
      exact ⟨_, rfl, hownk.out, hbk.out⟩
abbrev TwoTri (w0 : World) (b o : Nat) (x : En) (b2 o2 : Nat) (y : En) (W : World) : Prop := TriAt W b o x ∧ TriAt W b2 o2 y ∧ Below w0.heap.size w0 W
theorem twoTri_next {w0 W W' : World} {b o b2 o2 : Nat} {x y : En} (h : TwoTri w0 b o x b2 o2 y W) (hb : Below W.heap.size W W') : TwoTri w0 b o x b2 o2 y W' := ⟨tri_below h.1 hb, tri_below h.2.1 hb, h.2.2.trans (hb.mono h.2.2.size)⟩
theorem twoTri_drew {w0 W : World} {b o b2 o2 : Nat} {x y : En} (h : TwoTri w0 b o x b2 o2 y W) : TwoTri w0 b o x b2 o2 y W.drew := ⟨h.1, h.2.1, h.2.2.drew⟩
theorem twoTri_low {w0 W : World} {b o b2 o2 : Nat} {x y : En} (h : TwoTri w0 b o x b2 o2 y W) : Below w0.heap.size w0 W := h.2.2
def SamesERel (l : List En) (w0 : World) (i : Value) (w : World) : Prop := ∃ k : Nat, k ≤ l.length ∧ i = .int .i64 (k : Int) ∧ Below w0.heap.size w0 w
set_option maxHeartbeats 3200000 in
theorem sameEntrys_any (v u : Value) (l : List En) (w : World) (h1 : Row enV 3 w v l) (h2 : Row enV 3 w u l) :
    Calls Tryd.prog 14 #[v, u] w fun e w' => e = .returned (.bool true) ∧ Below w.heap.size w w' := by
  obtain ⟨a1, c1, rfl⟩ := row_slice h1
  obtain ⟨a2, c2, rfl⟩ := row_slice h2
  obtain ⟨_, hc1, hm1, _⟩ := row_cap h1
  have hlm : l.length ≤ 9223372036854775807 := by unfold maxLen at hm1; omega
  have hx1 := hidden (fun k hk W (h : Below w.heap.size w W) => rowE_at (h1.below enV_len h (Nat.le_refl _)) k hk)
  have hx2 := hidden (fun k hk W (h : Below w.heap.size w W) => rowE_at (h2.below enV_len h (Nat.le_refl _)) k hk)
  clear h1 h2 hc1 hm1
  go_enter Tryd.func14, Tryd.ntmps14
  go_wp2_with fail
  go_loopw [5] (fun i wr => SamesERel l w i wr) (fun i _ => l.length - (RowKit.intOf i).toNat)
  case atStart => exact ⟨0, Nat.zero_le _, rfl, Below.refl _ _⟩
  case round =>
    obtain ⟨k, hk, rfl, hb⟩ := hrel
    by_cases hlt : k < l.length
    · obtain ⟨b, o, rfl, q1⟩ := hx1.out k hlt _ hb
      obtain ⟨b2, o2, rfl, q2⟩ := hx2.out k hlt _ hb
      generalize l.getD k enZ = a at *
      have hlI : (k : Int) < (l.length : Int) := by omega
      have hs := hidden (show TwoTri w b (o + k * 3) a b2 (o2 + k * 3) a wr from ⟨q1, q2, hb⟩)
      clear q1 q2 hb hx1 hx2
      go_wp2_with fail
      go_region_held3 (fun W => (W.cell? ⟨b, o + k * 3, none⟩ = some (.int .i64 a.d) ∧ W.cell? ⟨b, o + k * 3 + 1, none⟩ = some (.int .i64 a.c) ∧ W.cell? ⟨b, o + k * 3 + 2, none⟩ = some (.bool a.o)) ∧ (W.cell? ⟨b2, o2 + k * 3, none⟩ = some (.int .i64 a.d) ∧ W.cell? ⟨b2, o2 + k * 3 + 1, none⟩ = some (.int .i64 a.c) ∧ W.cell? ⟨b2, o2 + k * 3 + 2, none⟩ = some (.bool a.o)) ∧ Below w.heap.size w W)
        ((first | exact twoTri_drew hs.out | assumption | exact twoTri_next (by assumption) (by assumption)))
        ((go_at_call 27; with_reducible refine (sameE_any a _).mono ?_; rintro e w' ⟨rfl, hb⟩))
      rename_i hh
      have hend := hidden (twoTri_low hh)
      clear hh hs
      go_wp2
      go_roundw
      case rel => exact ⟨k + 1, hlt, by go_num, hend.out⟩
      case measure => simp [RowKit.intOf]; omega
    · obtain rfl : k = l.length := by omega
      replace hb := hidden hb
      go_wp2
      go_ret
      exact ⟨rfl, hb.out⟩
end Go.Proofs.YtfoiclgipnlfnaaDoor
