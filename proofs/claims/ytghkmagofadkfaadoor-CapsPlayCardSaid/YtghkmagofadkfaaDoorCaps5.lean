/-
  gather.
-/
import Derived.Test.YtghkmagofadkfaaDoorCaps4
import Derived.Test.YtghkmagofadkfaaDoorRow
namespace Go.Proofs.YtghkmagofadkfaaDoor
open Go.RowKit Go.Maps Go.MapKept
set_option linter.unusedVariables false

def lnV (x : Ln) : List Value := [.int .i64 x.c, .int .i64 x.m, .int .i64 x.i, .int .i64 x.v]
def lnZ : Ln := ⟨0, 0, 0, 0⟩
theorem lnV_len (x : Ln) : (lnV x).length = 4 := rfl
theorem lnV_one (x : Ln) : ∀ u ∈ lnV x, u.oneCell' = true := fun u hu => by
  simp only [lnV, List.mem_cons, List.not_mem_nil, or_false] at hu
  rcases hu with rfl | rfl | rfl | rfl <;> rfl
abbrev FourAt (w : World) (b o : Nat) (x : Ln) : Prop :=
  w.cell? ⟨b, o, none⟩ = some (.int .i64 x.c) ∧ w.cell? ⟨b, o + 1, none⟩ = some (.int .i64 x.m) ∧ w.cell? ⟨b, o + 2, none⟩ = some (.int .i64 x.i) ∧ w.cell? ⟨b, o + 3, none⟩ = some (.int .i64 x.v)
theorem rowL_at {w : World} {a : Option Addr} {n c : Nat} {l : List Ln} (h : Row lnV 4 w (.slice a n c) l) (k : Nat) (hk : k < n) : ∃ b o, a = some ⟨b, o, none⟩ ∧ FourAt w b (o + k * 4) (l.getD k lnZ) := by
  obtain ⟨b, o, rfl, hc⟩ := h.at lnV_len lnZ k hk (by decide)
  exact ⟨b, o, rfl, hc 0 (by omega), hc 1 (by omega), hc 2 (by omega), hc 3 (by omega)⟩
theorem take_snocL (l : List Ln) (k : Nat) (h : k < l.length) : l.take (k + 1) = l.take k ++ [l.getD k lnZ] := by
  rw [List.take_succ_eq_append_getElem h, List.getD_eq_getElem?_getD, List.getElem?_eq_getElem h]; rfl
theorem split_L (l : List Ln) (k : Nat) (h : k < l.length) : l = l.take k ++ l.getD k lnZ :: l.drop (k + 1) := by
  have e := (List.take_append_drop k l).symm
  rw [List.drop_eq_getElem_cons h] at e
  rw [List.getD_eq_getElem?_getD, List.getElem?_eq_getElem h]
  exact e
theorem getL_mem {l : List Ln} {k : Nat} (h : k < l.length) : l.getD k lnZ ∈ l := by
  rw [List.getD_eq_getElem?_getD, List.getElem?_eq_getElem h]; exact List.getElem_mem h
theorem badL_first {l : List Ln} {k : Nat} (hk : k < l.length) (h : ∀ j, j < k → lnOk (l.getD j lnZ)) (hn : ¬ lnOk (l.getD k lnZ)) : badL l = some k := by
  induction l generalizing k with
  | nil => simp at hk
  | cons x l ih =>
    unfold badL
    cases k with
    | zero => rw [if_neg (by simpa using hn)]
    | succ k =>
      have h0 : lnOk x := by simpa using h 0 (by omega)
      rw [if_pos h0, ih (by simpa using hk) (fun j hj => by simpa using h (j + 1) (by omega)) (by simpa using hn)]
      rfl
theorem all_of_getD {l : List Ln} (h : ∀ j, j < l.length → lnOk (l.getD j lnZ)) : ∀ x ∈ l, lnOk x := fun x hx => by
  obtain ⟨j, hj, rfl⟩ := List.getElem_of_mem hx
  have := h j hj
  rw [List.getD_eq_getElem?_getD, List.getElem?_eq_getElem hj] at this
  exact this
theorem grAdd_fine (A : Nat → Addr) (w : World) (b n : Nat) (k : Int) (G : GTab) (h : GrMap w b n G) (hn : n < 1000000) (hG : GrT k G) (s : GrpT) (hs : grIn s) (v : Int) (hv : 0 ≤ v) (hv2 : v ≤ 1000000000000000) (hE : ErrsOn [2, 3] w A) (hle : getG G s + v ≤ 1000000000000000) :
    Calls Tryd.prog 35 #[.map (some b), grV s, .int .i64 v] w fun e w' => e = .returned .nilIface ∧ GrMap w' b (n + 1) (updK G s (getG G s + v)) ∧ Trd (· = b) w w' :=
  (grAdd_any A w b n k G h hn hG s hs v hv hv2 hE).mono fun e w' q => by
    rcases q with ⟨_, q⟩ | ⟨q, _⟩
    · exact q
    · omega
theorem grAdd_over (A : Nat → Addr) (w : World) (b n : Nat) (k : Int) (G : GTab) (h : GrMap w b n G) (hn : n < 1000000) (hG : GrT k G) (s : GrpT) (hs : grIn s) (v : Int) (hv : 0 ≤ v) (hv2 : v ≤ 1000000000000000) (hE : ErrsOn [2, 3] w A) (hle : 1000000000000000 < getG G s + v) :
    Calls Tryd.prog 35 #[.map (some b), grV s, .int .i64 v] w fun e w' => e = .returned (errAt (A 3)) ∧ Below w.heap.size w w' :=
  (grAdd_any A w b n k G h hn hG s hs v hv hv2 hE).mono fun e w' q => by
    rcases q with ⟨q, _⟩ | ⟨_, q⟩
    · omega
    · exact q
/-- the sums are in a new map, or one is too great. -/
def GrsAt (A : Nat → Addr) (N : Nat) (ok : GTab → Prop) (no : Prop) (w : World) (e : Ending) (w' : World) : Prop :=
  (∃ b n G, n ≤ N ∧ e = .returned (.tuple #[.map (some b), .nilIface]) ∧ GrMap w' b n G ∧ ok G ∧ Below w.heap.size w w') ∨ (e = .returned (.tuple #[.map none, errAt (A 3)]) ∧ no ∧ Below w.heap.size w w')
def GatRel (l : List Ln) (w0 : World) (i : Value) (w : World) : Prop := ∃ (k : Nat) (G : GTab), k ≤ l.length ∧ i = .int .i64 (k : Int) ∧ GrMap w w0.heap.size k G ∧ gatAt (l.take k) G ∧ Below w0.heap.size w0 w
set_option maxRecDepth 100000 in
set_option maxHeartbeats 3200000 in
theorem gather_any (A : Nat → Addr) (w : World) (v : Value) (l : List Ln) (h : Row lnV 4 w v l) (hl : l.length ≤ 100000) (hok : ∀ x ∈ l, lnOk x) (hE : ErrsOn [2, 3] w A) :
    Calls Tryd.prog 28 #[v] w (GrsAt A l.length (gatAt l) (∀ T, ¬ fits T l) w) := by
  obtain ⟨a1, c1, rfl⟩ := row_slice h
  have hx1 := hidden (fun k hk W (h2 : Below w.heap.size w W) => rowL_at (h.below lnV_len h2 (Nat.le_refl _)) k hk)
  have hmm := @run_makeMap Tryd.prog
  replace hok := hidden hok
  replace hE := hidden hE
  unfold GrsAt
  clear h
  go_enter Tryd.func28, Tryd.ntmps28
  go_wp2_with fail
  go_loopw [12] (fun i wr => GatRel l w i wr) (fun i _ => l.length - (RowKit.intOf i).toNat)
  case atStart => exact ⟨0, noG, Nat.zero_le _, rfl, keyTab_made w, gatAt_no, (Below.refl _ w).alloc (Nat.le_refl _) _⟩
  case round =>
    obtain ⟨k, G, hk, rfl, hM, hgat, hb⟩ := hrel
    by_cases hlt : k < l.length
    · obtain ⟨b, o, rfl, q0, q1, q2, q3⟩ := hx1.out k hlt _ hb
      have hlI : (k : Int) < (l.length : Int) := by omega
      have hxo := hok.out _ (getL_mem hlt)
      have htk := hidden (take_snocL l k hlt)
      have hsp := hidden (split_L l k hlt)
      have hrest := hidden (fun y (hy : y ∈ l.drop (k + 1)) => hok.out y (List.mem_of_mem_drop hy))
      generalize l.getD k lnZ = x at *
      obtain ⟨c, m, i, u⟩ := x
      have hW : Below wr.heap.size wr ((wr.alloc (lnO 58 ⟨c, m, i, u⟩)).alloc (grO (c, m, i))) := ((Below.refl _ wr).alloc (Nat.le_refl _) _).alloc (by simp) _
      have hbW := hidden (hb.trans (hW.mono hb.size))
      have hEW := hE.out.below hbW.out (Nat.le_refl _)
      have hMW : GrMap ((wr.alloc (lnO 58 ⟨c, m, i, u⟩)).alloc (grO (c, m, i))) w.heap.size k G := hM.block (hW.block _ hM.lt)
      by_cases hv : getG G (c, m, i) + u ≤ 1000000000000000
      · have hA := hidden (grAdd_fine A _ w.heap.size k 3 G hMW (by omega) hgat.1 (c, m, i) (lnG_ok hxo).isIn u hxo.2.2.2.1 hxo.2.2.2.2 hEW hv)
        have hg2 := hidden (gatAt_snoc hgat hxo hv)
        replace hxo := hidden hxo
        replace hb := hidden hb
        clear hE hgat hM hMW hEW hW hrest hsp
        simp only at q0 q1 q2 q3
        go_wp2_with fail
        (with_reducible refine hA.out.mono ?_)
        rintro e w5 ⟨rfl, hM5, ht5⟩
        replace hM5 := hidden hM5
        have hb5 := hidden (hbW.out.trans (ht5.below (B := w.heap.size) (fun j hj => by rw [hj]; exact Nat.le_refl _) hbW.out.size))
        clear ht5 hA hbW
        go_wp2
        go_roundw
        case rel => exact ⟨k + 1, _, hlt, by go_num, hM5.out, by rw [htk.out]; exact hg2.out, hb5.out⟩
        case measure => simp [RowKit.intOf]; omega
      · have hA := hidden (grAdd_over A _ w.heap.size k 3 G hMW (by omega) hgat.1 (c, m, i) (lnG_ok hxo).isIn u hxo.2.2.2.1 hxo.2.2.2.2 hEW (by omega))
        have hno := hidden (fun T => show ¬ fits T l from by rw [hsp.out]; exact gat_over (T := T) hgat hxo hrest.out (by show _ < getG G (c, m, i) + u; omega))
        replace hb := hidden hb
        clear hE hgat hM hMW hEW hW hrest hsp hv
        simp only at q0 q1 q2 q3
        go_wp2_with fail
        (with_reducible refine hA.out.mono ?_)
        rintro e w5 ⟨rfl, hb5⟩
        replace hb5 := hidden (hbW.out.trans (hb5.mono hbW.out.size))
        clear hA hbW
        go_wp2
        go_ret2
        exact .inr ⟨rfl, hno.out, hb5.out⟩
    · obtain rfl : k = l.length := by omega
      rw [List.take_length] at hgat
      replace hb := hidden hb
      replace hgat := hidden hgat
      replace hM := hidden hM
      clear hE
      go_wp2
      go_ret2
      exact .inl ⟨_, _, _, Nat.le_refl _, rfl, hM.out, hgat.out, hb.out⟩
end Go.Proofs.YtghkmagofadkfaaDoor
