/-
  All, Of.
-/
import Derived.Test.YtbjiiddlpfjipaaDoorAsset2
namespace Go.Proofs.YtbjiiddlpfjipaaDoor
open Go.RowKit
set_option linter.unusedVariables false

theorem infoAs : (Tryd.prog.info? 25).map (fun i => (i.zero, i.size, i.bytes)) = some (some (asA asZ), 5, 40) := by kernel_rfl
theorem arr_size : (Tryd.prog.info? 26).map (·.size) = some 165 := by kernel_rfl
theorem index_tab {t : List As} (ht : Tab t) {k : Nat} (hk : k < 33) (w : World) : (Instr.index 26 (.agg (t.flatMap asV).toArray) (.int .i64 (k : Int))).run Tryd.prog w = .ok (asA (t.getD k asZ)) w := by
  rw [run_index_row (s := 5) _ _ 33 _ _ k _ Tryd.underlying26 hk rfl Tryd.underlying25 as_size w, flatR_extract asV_len asZ t k (by rw [ht.len]; exact hk)]
  rfl
theorem TabAt.range {w : World} {g : Nat} {t : List As} (h : TabAt w g t) : w.rangeAt g 0 (t.flatMap asV) := fun j v hv => by
  rw [Nat.zero_add, cell_of_row _ _ _ _ _ _ h.row, List.getElem?_toArray]
  exact hv
/-- the rows of assets that a call makes. -/
abbrev OwnAs (B : Nat) (w : World) (v : Value) (l : List As) : Prop := OwnR asV 5 25 B w v l
def AllRel (t : List As) (w0 : World) (v i : Value) (w : World) : Prop := ∃ k : Nat, k ≤ 33 ∧ i = .int .i64 (k : Int) ∧ OwnAs w0.heap.size w v (allA (t.take k)) ∧ Below w0.heap.size w0 w
def AllAt (l : List As) (w : World) (e : Ending) (w' : World) : Prop := ∃ v, e = .returned v ∧ OwnAs w.heap.size w' v l ∧ Below w.heap.size w w'
set_option maxHeartbeats 3200000 in
theorem all_any (t : List As) (g : Nat) (w : World) (hT : TabAt w g t) :
    Calls Tryd.prog 20 #[.pointer (some ⟨g, 0, none⟩)] w (AllAt (allA t) w) := by
  have hr := hidden hT.range
  have hx := hidden (fun k hk w => @index_tab t hT.tab k hk w)
  have hlen := hidden hT.tab.len
  have hs := hidden (show (Tryd.prog.info? 26).map (·.size) = some (t.flatMap asV).length by rw [flatR_len asV_len, hT.tab.len]; exact arr_size)
  have hu := Tryd.underlying26
  have hnx := hidden (fun k hk => allA_next t k hk)
  clear hT
  generalize t.flatMap asV = F at *
  go_enter Tryd.func20, Tryd.ntmps20
  go_wp2_with (refine wpList_load_mid rfl 26 _ rfl g 0 rfl F _ hr.out hu rfl hs.out ?_)
  go_loopw [3, 10] (fun v i wr => AllRel t w v i wr) (fun _ i _ => 33 - (RowKit.intOf i).toNat)
  case atStart => exact ⟨0, by omega, rfl, OwnR.nil _ _ _, Below.refl _ _⟩
  case round =>
    obtain ⟨k, hk, rfl, hown, hb⟩ := hrel
    by_cases hlt : k < 33
    · have hx1 := hx.out k hlt
      have hn := hnx.out k (by rw [hlen.out]; exact hlt)
      generalize t.getD k asZ = a at *
      replace hn := hidden hn
      replace hown := hidden hown
      replace hb := hidden hb
      have hkI : (k : Int) < 33 := by omega
      have hBr := hidden (show w.heap.size ≤ (wr.alloc (asO a)).heap.size by have := hb.out.size; simp; omega)
      replace hown := hidden (hown.out.alloc (asO a))
      replace hb := hidden (hb.out.alloc hb.out.size (asO a))
      by_cases hz : a.i = 0
      · have e1 : allA (t.take (k + 1)) = allA (t.take k) := by rw [hn.out, if_pos hz, List.append_nil]
        replace e1 := hidden e1
        have hne : (a.i != 0) = false := by simpa using hz
        clear hz
        go_wp2
        go_roundw
        case rel => exact ⟨k + 1, hlt, by go_num, by rw [e1.out]; exact hown.out, hb.out⟩
        case measure => simp [RowKit.intOf]; omega
      · have e1 : allA (t.take (k + 1)) = allA (t.take k) ++ [a] := by rw [hn.out, if_neg hz]
        replace e1 := hidden e1
        have hlk := hidden (show (allA (t.take k)).length ≤ 1000000 by have := allA_le (t.take k); simp at this; omega)
        have hne : (a.i != 0) = true := by simpa using hz
        clear hz
        go_wp2_with (at_builtin; refine wpList_appR1 rfl _ _ 22 rfl asV_len asV_one (by decide) 25 Tryd.underlying22 infoAs rfl (by decide) w.heap.size _ (allA (t.take k)) rfl hown.out a _ rfl _ rfl (by simp) hlk.out hBr.out ?_)
        intro v2 w2 hown2 hb2
        replace hown2 := hidden hown2
        replace hb2 := hidden (hb.out.trans hb2)
        go_wp2
        go_roundw
        case rel => exact ⟨k + 1, hlt, by go_num, by rw [e1.out]; exact hown2.out, hb2.out⟩
        case measure => simp [RowKit.intOf]; omega
    · obtain rfl : k = 33 := by omega
      rw [List.take_of_length_le (by rw [hlen.out]; exact Nat.le_refl _)] at hown
      replace hown := hidden hown
      replace hb := hidden hb
      go_wp2
      go_ret
      exact ⟨_, rfl, hown.out, hb.out⟩
/-- the numbers of the assets of an issuer. -/
def ofA (l : List As) (s : Int) : List Int := (l.filter (fun a => a.s == s)).map As.i
theorem ofA_next (l : List As) (s : Int) (k : Nat) (hk : k < l.length) : ofA (l.take (k + 1)) s = ofA (l.take k) s ++ (if (l.getD k asZ).s = s then [(l.getD k asZ).i] else []) := by
  rw [List.take_add_one, List.getElem?_eq_getElem hk, List.getD_eq_getElem?_getD, List.getElem?_eq_getElem hk]
  unfold ofA
  rw [List.filter_append, List.map_append]
  congr 1
  by_cases h : l[k].s = s <;> simp [h]
theorem ofA_le (l : List As) (s : Int) : (ofA l s).length ≤ l.length := by
  unfold ofA
  rw [List.length_map]
  exact List.length_filter_le _ _
theorem infoInt : (Tryd.prog.info? 3).map (fun i => (i.zero, i.size, i.bytes)) = some (some (.int .i64 0), 1, 8) := by kernel_rfl
def OwnInts (B : Nat) (w : World) (v : Value) (l : List Int) : Prop := w.ownsRow B 3 1 v l.length (l.map (Value.int .i64))
def OfRel (l : List As) (s : Int) (w0 : World) (v i : Value) (w : World) : Prop := ∃ k : Nat, k ≤ l.length ∧ i = .int .i64 (k : Int) ∧ OwnInts w0.heap.size w v (ofA (l.take k) s) ∧ Below w0.heap.size w0 w
def OfAt (l : List As) (s : Int) (w : World) (e : Ending) (w' : World) : Prop := ∃ v, e = .returned v ∧ OwnInts w.heap.size w' v (ofA l s) ∧ Below w.heap.size w w'
set_option maxHeartbeats 3200000 in
theorem of_any10 (t : List As) (g : Nat) (s : Int) (w : World) (hT : TabAt w g t) :
    Calls Tryd.prog 22 #[.pointer (some ⟨g, 0, none⟩), .int .i64 s] w (OfAt (allA t) s w) := by
  have hA := hidden (all_any t g w hT)
  have h33 := allA_32 hT.tab
  clear hT
  generalize allA t = l at *
  go_enter Tryd.func22, Tryd.ntmps22
  go_wp2_with fail
  refine hA.out.mono ?_
  rintro e w1 ⟨v1, rfl, hown1, hb1⟩
  have hrow := hown1.row asV_len
  obtain ⟨va, vc, rfl⟩ := row_slice hrow
  replace hrow := hidden hrow
  replace hb1 := hidden hb1
  clear hown1 hA
  have hnx := hidden (fun k hk => ofA_next l s k hk)
  go_wp2_with fail
  go_loopw [5, 11] (fun v i wr => OfRel l s w1 v i wr) (fun _ i _ => l.length - (RowKit.intOf i).toNat)
  case atStart => exact ⟨0, Nat.zero_le _, rfl, World.ownsRow_nil _ _ _ _, Below.refl _ _⟩
  case round =>
    obtain ⟨k, hk, rfl, hown, hb⟩ := hrel
    by_cases hlt : k < l.length
    · have hn := hidden (hnx.out k hlt)
      obtain ⟨b, o, rfl, hc⟩ := (hrow.out.below asV_len hb (Nat.le_refl _)).at asV_len asZ k hlt (by decide)
      generalize l.getD k asZ = a at *
      have c0 : wr.cell? ⟨b, o + k * 5, none⟩ = some (.int .i64 a.i) := hc 0 (by omega)
      have c1 : wr.cell? ⟨b, o + k * 5 + 1, none⟩ = some (.int .i64 a.s) := hc 1 (by omega)
      have c2 : wr.cell? ⟨b, o + k * 5 + 2, none⟩ = some (.int .i64 a.c) := hc 2 (by omega)
      have c3 : wr.cell? ⟨b, o + k * 5 + 3, none⟩ = some (.int .i64 a.m) := hc 3 (by omega)
      have c4 : wr.cell? ⟨b, o + k * 5 + 4, none⟩ = some (.int .i64 a.e) := hc 4 (by omega)
      have hlI : (k : Int) < (l.length : Int) := by omega
      clear hc
      replace hown := hidden (World.ownsRow.alloc hown (asO a))
      replace hb := hidden (hb.alloc hb.size (asO a))
      by_cases hz : a.s = s
      · have e1 : ofA (l.take (k + 1)) s = ofA (l.take k) s ++ [a.i] := by rw [hn.out, if_pos hz]
        replace e1 := hidden e1
        have hne : (a.s == s) = true := by simpa using hz
        have hlk := hidden (show (ofA (l.take k) s).length ≤ 1099511627776 by have := ofA_le (l.take k) s; rw [List.length_take] at this; omega)
        have hBr := hidden (show w1.heap.size ≤ (wr.alloc (asO a)).heap.size from hb.out.size)
        clear hz
        go_wp2_with (at_builtin; refine wpList_app1' rfl _ _ 44 rfl 3 Tryd.underlying44 infoInt rfl (by decide) w1.heap.size _ _ _ rfl hown.out _ _ rfl (by simp) rfl hlk.out hBr.out ?_)
        intro v2 w2 hown2 hb2
        replace hown2 := hidden hown2
        replace hb2 := hidden (hb.out.trans hb2)
        go_wp2
        go_roundw
        case rel => exact ⟨k + 1, hlt, by go_num, by rw [e1.out]; unfold OwnInts; rw [List.length_append, List.map_append]; exact hown2.out, hb2.out⟩
        case measure => simp [RowKit.intOf]; omega
      · have e1 : ofA (l.take (k + 1)) s = ofA (l.take k) s := by rw [hn.out, if_neg hz, List.append_nil]
        replace e1 := hidden e1
        have hne : (a.s == s) = false := by simpa using hz
        clear hz
        go_wp2
        go_roundw
        case rel => exact ⟨k + 1, hlt, by go_num, by rw [e1.out]; exact hown.out, hb.out⟩
        case measure => simp [RowKit.intOf]; omega
    · obtain rfl : k = l.length := by omega
      rw [List.take_length] at hown
      replace hown := hidden (own_from hown hb1.out.size)
      replace hb := hidden (hb1.out.trans (hb.mono hb1.out.size))
      go_wp2
      go_ret
      exact ⟨_, rfl, hown.out, hb.out⟩
end Go.Proofs.YtbjiiddlpfjipaaDoor
