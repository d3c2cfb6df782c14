/-
  The document's own: SameAsset, SameAssets, Find, Assets, AddAsset.
-/
import Derived.Test.YtbjiiddlpfjipaaDoorAsset3
import Derived.Test.YtbjiiddlpfjipaaDoorStep
import Derived.Deep.RegionHeld3
namespace Go.Proofs.YtbjiiddlpfjipaaDoor
open Go.RowKit
set_option linter.unusedVariables false

theorem sameAs_any (a : As) (w : World) : Calls Tryd.prog 18 #[asA a, asA a] w fun e w' => e = .returned (.bool true) ∧ Below w.heap.size w w' := by
  have hb := hidden ((below_as w a).trans ((below_as (w.alloc (asO a)) a).mono (below_as w a).size))
  obtain ⟨i, s, c, m, e⟩ := a
  go_enter Tryd.func18, Tryd.ntmps18
  go_wp2
  go_ret
  exact ⟨rfl, hb.out⟩
/-- the cells of an asset at a place. -/
abbrev FiveAt (w : World) (b o : Nat) (a : As) : Prop :=
  w.cell? ⟨b, o, none⟩ = some (.int .i64 a.i) ∧ w.cell? ⟨b, o + 1, none⟩ = some (.int .i64 a.s) ∧ w.cell? ⟨b, o + 2, none⟩ = some (.int .i64 a.c) ∧ w.cell? ⟨b, o + 3, none⟩ = some (.int .i64 a.m) ∧ w.cell? ⟨b, o + 4, none⟩ = some (.int .i64 a.e)
theorem rowA_at {w : World} {a : Option Addr} {n c : Nat} {l : List As} (h : Row asV 5 w (.slice a n c) l) (k : Nat) (hk : k < n) : ∃ b o, a = some ⟨b, o, none⟩ ∧ FiveAt w b (o + k * 5) (l.getD k asZ) := by
  obtain ⟨b, o, rfl, hc⟩ := h.at asV_len asZ k hk (by decide)
  exact ⟨b, o, rfl, hc 0 (by omega), hc 1 (by omega), hc 2 (by omega), hc 3 (by omega), hc 4 (by omega)⟩
theorem five_below {w w' : World} {b o : Nat} {a : As} (h : FiveAt w b o a) (hb : Below w.heap.size w w') : FiveAt w' b o a := by
  obtain ⟨h1, h2, h3, h4, h5⟩ := h
  refine ⟨?_, ?_, ?_, ?_, ?_⟩ <;> (rw [World.cell?_of_block (w := w) (hb.block _ (World.block_lt_of_cell? w _ (by assumption)))]; assumption)
def SamesRel (l : List As) (w0 : World) (i : Value) (w : World) : Prop := ∃ k : Nat, k ≤ l.length ∧ i = .int .i64 (k : Int) ∧ Below w0.heap.size w0 w
abbrev TwoFive (w0 : World) (b o b2 o2 : Nat) (a : As) (W : World) : Prop := FiveAt W b o a ∧ FiveAt W b2 o2 a ∧ Below w0.heap.size w0 W
theorem twoFive_next {w0 W W' : World} {b o b2 o2 : Nat} {a : As} (h : TwoFive w0 b o b2 o2 a W) (hb : Below W.heap.size W W') : TwoFive w0 b o b2 o2 a W' := ⟨five_below h.1 hb, five_below h.2.1 hb, h.2.2.trans (hb.mono h.2.2.size)⟩
theorem twoFive_drew {w0 W : World} {b o b2 o2 : Nat} {a : As} (h : TwoFive w0 b o b2 o2 a W) : TwoFive w0 b o b2 o2 a W.drew := ⟨h.1, h.2.1, h.2.2.drew⟩
theorem twoFive_low {w0 W : World} {b o b2 o2 : Nat} {a : As} (h : TwoFive w0 b o b2 o2 a W) : Below w0.heap.size w0 W := h.2.2
set_option maxHeartbeats 3200000 in
theorem sameAssets_any (v u : Value) (l : List As) (w : World) (h1 : Row asV 5 w v l) (h2 : Row asV 5 w u l) :
    Calls Tryd.prog 19 #[v, u] w fun e w' => e = .returned (.bool true) ∧ Below w.heap.size w w' := by
  obtain ⟨a1, c1, rfl⟩ := row_slice h1
  obtain ⟨a2, c2, rfl⟩ := row_slice h2
  obtain ⟨_, hc1, hm1, _⟩ := row_cap h1
  have hlm : l.length ≤ 9223372036854775807 := by unfold maxLen at hm1; omega
  have hx1 := hidden (fun k hk W (h : Below w.heap.size w W) => rowA_at (h1.below asV_len h (Nat.le_refl _)) k hk)
  have hx2 := hidden (fun k hk W (h : Below w.heap.size w W) => rowA_at (h2.below asV_len h (Nat.le_refl _)) k hk)
  clear h1 h2 hc1 hm1
  go_enter Tryd.func19, Tryd.ntmps19
  go_wp2_with fail
  go_loopw [5] (fun i wr => SamesRel l w i wr) (fun i _ => l.length - (RowKit.intOf i).toNat)
  case atStart => exact ⟨0, Nat.zero_le _, rfl, Below.refl _ _⟩
  case round =>
    obtain ⟨k, hk, rfl, hb⟩ := hrel
    by_cases hlt : k < l.length
    · obtain ⟨b, o, rfl, q1⟩ := hx1.out k hlt _ hb
      obtain ⟨b2, o2, rfl, q2⟩ := hx2.out k hlt _ hb
      generalize l.getD k asZ = a at *
      have hlI : (k : Int) < (l.length : Int) := by omega
      have hs := hidden (show TwoFive w b (o + k * 5) b2 (o2 + k * 5) a wr from ⟨q1, q2, hb⟩)
      clear q1 q2 hb hx1 hx2
      go_wp2_with fail
      go_region_held3 (fun W => (W.cell? ⟨b, o + k * 5, none⟩ = some (.int .i64 a.i) ∧ W.cell? ⟨b, o + k * 5 + 1, none⟩ = some (.int .i64 a.s) ∧ W.cell? ⟨b, o + k * 5 + 2, none⟩ = some (.int .i64 a.c) ∧ W.cell? ⟨b, o + k * 5 + 3, none⟩ = some (.int .i64 a.m) ∧ W.cell? ⟨b, o + k * 5 + 4, none⟩ = some (.int .i64 a.e)) ∧ (W.cell? ⟨b2, o2 + k * 5, none⟩ = some (.int .i64 a.i) ∧ W.cell? ⟨b2, o2 + k * 5 + 1, none⟩ = some (.int .i64 a.s) ∧ W.cell? ⟨b2, o2 + k * 5 + 2, none⟩ = some (.int .i64 a.c) ∧ W.cell? ⟨b2, o2 + k * 5 + 3, none⟩ = some (.int .i64 a.m) ∧ W.cell? ⟨b2, o2 + k * 5 + 4, none⟩ = some (.int .i64 a.e)) ∧ Below w.heap.size w W)
        ((first | exact twoFive_drew hs.out | assumption | exact twoFive_next (by assumption) (by assumption)))
        ((go_at_call 18; with_reducible refine (sameAs_any a _).mono ?_; rintro e w' ⟨rfl, hb⟩))
      rename_i hh
      have hend := hidden (twoFive_low hh)
      clear hh hs
      go_wp2
      go_roundw
      case rel => exact ⟨k + 1, hlt, by go_num, hend.out⟩
      case measure => simp [RowKit.intOf]; omega
    · obtain rfl : k = l.length := by omega
      replace hb := hidden hb
      go_wp2
      go_ret
      exact ⟨rfl, hb.out⟩
def FindRel (l : List As) (d : Int) (w0 : World) (i : Value) (w : World) : Prop := ∃ k : Nat, k ≤ l.length ∧ i = .int .i64 (k : Int) ∧ (∀ j, j < k → (l.getD j asZ).i ≠ d) ∧ w0 = w
def FindAt (l : List As) (d : Int) (w : World) (e : Ending) (w' : World) : Prop := ∃ r : Int, e = .returned (.int .i64 r) ∧ Found l d r ∧ w = w'
theorem find_any10 (v : Value) (l : List As) (d : Int) (w : World) (h1 : Row asV 5 w v l) : Calls Tryd.prog 16 #[v, .int .i64 d] w (FindAt l d w) := by
  obtain ⟨a1, c1, rfl⟩ := row_slice h1
  obtain ⟨_, hc1, hm1, _⟩ := row_cap h1
  have hlm : l.length ≤ 9223372036854775807 := by unfold maxLen at hm1; omega
  have hx1 := hidden (fun k hk => rowA_at h1 k hk)
  clear h1 hc1 hm1
  go_enter Tryd.func16, Tryd.ntmps16
  go_wp2_with fail
  go_loopw [5] (fun i wr => FindRel l d w i wr) (fun i _ => l.length - (RowKit.intOf i).toNat)
  case atStart => exact ⟨0, Nat.zero_le _, rfl, fun j h => absurd h (Nat.not_lt_zero _), rfl⟩
  case round =>
    obtain ⟨k, hk, rfl, hno, rfl⟩ := hrel
    replace hno := hidden hno
    by_cases hlt : k < l.length
    · obtain ⟨b, o, rfl, c0, c1, c2, c3, c4⟩ := hx1.out k hlt
      have hlI : (k : Int) < (l.length : Int) := by omega
      clear c1 c2 c3 c4
      by_cases hz : (l.getD k asZ).i = d
      · have hend := hidden (show Found l d k from .inr ⟨k, rfl, hlt, hz⟩)
        generalize l.getD k asZ = a at c0 hz
        have hne : (a.i == d) = true := by simpa using hz
        clear hz
        go_wp2
        go_ret
        exact ⟨_, rfl, hend.out, rfl⟩
      · have hnext := hidden (show ∀ j, j < k + 1 → (l.getD j asZ).i ≠ d from fun j hj => by
          rcases Nat.lt_succ_iff_lt_or_eq.1 hj with q | rfl
          · exact hno.out j q
          · exact hz)
        generalize l.getD k asZ = a at c0 hz
        have hne : (a.i == d) = false := by simpa using hz
        clear hz
        go_wp2
        go_roundw
        case rel => exact ⟨k + 1, hlt, by go_num, hnext.out, rfl⟩
        case measure => simp [RowKit.intOf]; omega
    · obtain rfl : k = l.length := by omega
      go_wp2
      go_ret
      exact ⟨-1, rfl, .inl ⟨rfl, hno.out⟩, rfl⟩
/-- a copy of assets in new memory. -/
def CopyAsRel (B : Nat) (l : List As) (w : World) (v i : Value) (wr : World) : Prop := ∃ k : Nat, i = .int .i64 (k : Int) ∧ k ≤ l.length ∧ OwnAs B wr v (l.take k) ∧ Below B w wr
theorem take_snocAs (l : List As) (k : Nat) (h : k < l.length) : l.take (k + 1) = l.take k ++ [l.getD k asZ] := by
  rw [List.take_succ_eq_append_getElem h, List.getD_eq_getElem?_getD, List.getElem?_eq_getElem h]; rfl
set_option maxHeartbeats 1600000 in
theorem assets_any (v : Value) (l : List As) (w : World) (h : Row asV 5 w v l) (hl : l.length ≤ 1000) : Calls Tryd.prog 24 #[v] w (AllAt l w) := by
  obtain ⟨a1, c1, rfl⟩ := row_slice h
  have hx1 := hidden (fun k hk W (hb : Below w.heap.size w W) => rowA_at (h.below asV_len hb (Nat.le_refl _)) k hk)
  clear h
  obtain ⟨i0, hi, hz0, hz1, hz2⟩ := info_parts infoAs
  go_enter Tryd.func24, Tryd.ntmps24
  go_wp2_with (at_make; refine wpList_make_own _ rfl _ _ 22 rfl w.heap.size 25 i0 (asA asZ) 5 Tryd.underlying22 hi hz0 hz1 .i64 .i64 _ l.length rfl rfl rfl ?c1 ?c2 ?c3 ?_)
  case c1 => rw [hz2]; omega
  case c2 => unfold maxLen; omega
  case c3 => exact Nat.le_refl _
  intro w1 hown1 hg1
  have hb1 := hidden (show Below w.heap.size w w1 from (Below.refl _ _).grown hg1 (Nat.le_refl _) (fun _ h => by cases h))
  replace hown1 := hidden hown1
  clear hg1
  go_wp2_with fail
  go_loopw [3, 4] (fun v i wr => CopyAsRel w.heap.size l w v i wr) (fun _ i _ => l.length - (intOf i).toNat)
  case atStart => exact ⟨0, rfl, Nat.zero_le _, by simpa [OwnR] using hown1.out, hb1.out⟩
  case round =>
    obtain ⟨k, rfl, hk, hownk, hbk⟩ := hrel
    clear hown1 hb1
    replace hownk := hidden hownk
    by_cases hlt : k < l.length
    · obtain ⟨b, o, rfl, c0, c1, c2, c3, c4⟩ := hx1.out k hlt _ hbk
      replace hbk := hidden hbk
      have hlI : (k : Int) < (l.length : Int) := by omega
      have htk := hidden (take_snocAs l k hlt)
      have hlk := hidden (show (l.take k).length ≤ 1000000 by simp; omega)
      have hB := hidden hbk.out.size
      generalize l.getD k asZ = x at *
      go_wp2_with (at_builtin; refine wpList_appR1 rfl _ _ 22 rfl asV_len asV_one (by decide) 25 Tryd.underlying22 infoAs rfl (by decide) w.heap.size _ (l.take k) rfl hownk.out x _ rfl _ rfl rfl hlk.out hB.out ?_)
      intro v2 w2 hown2 hb2
      replace hown2 := hidden hown2
      replace hb2 := hidden (hbk.out.trans hb2)
      go_wp2
      go_roundw
      case rel => exact ⟨k + 1, by go_num, hlt, by rw [htk.out]; exact hown2.out, hb2.out⟩
      case measure => simp [intOf]; omega
    · obtain rfl : k = l.length := by omega
      rw [List.take_length] at hownk
      replace hbk := hidden hbk
      go_wp2
      go_ret
      exact ⟨_, rfl, hownk.out, hbk.out⟩
end Go.Proofs.YtbjiiddlpfjipaaDoor
