/-
  root.Save, root.Load.
-/
import Derived.Test.YtcjjjoodnddoeaaDoorRoot3
import Derived.Test.YtcjjjoodnddoeaaDoorDisk4
import Derived.Test.YtcjjjoodnddoeaaDoorDisk5
namespace Go.Proofs.YtcjjjoodnddoeaaDoor
open Go.RowKit
set_option linter.unusedVariables false

def svC (D : Dk) (e : Int) (xs : List Int) : Int := if rtC e xs ≠ 0 then rtC e xs else if wrC D (e % 2) 128 ≠ 0 then wrC D (e % 2) 128 else flC (wrD D (e % 2) (rtB e xs))
def svD (D : Dk) (e : Int) (xs : List Int) : Dk := if rtC e xs ≠ 0 then D else if wrC D (e % 2) 128 ≠ 0 then wrD D (e % 2) (rtB e xs) else flD (wrD D (e % 2) (rtB e xs))
def SaveAt (A : Nat → Addr) (d g m : Nat) (D : Dk) (e : Int) (xs : List Int) (w : World) (r : Ending) (w' : World) : Prop := r = .returned (errOf A (svC D e xs)) ∧ DiskAt w' d g m (svD D e xs) ∧ Trd (dskB d g m) w w'
theorem errOf_at {A : Nat → Addr} {c : Int} (h : c ≠ 0) : ∃ j, errOf A c = errAt (A j) := ⟨_, by rw [errOf, if_neg h]⟩
set_option maxRecDepth 100000 in
set_option maxHeartbeats 1600000 in
theorem save_any (A : Nat → Addr) {w : World} {d g m : Nat} {D : Dk} (h : DiskAt w d g m D) (e : Int) (lv : Value) (xs : List Int) (hr : Reads .i64 w lv xs) (hE : ErrsOn [1, 2, 4, 7, 8] w A) :
    Calls Tryd.prog 17 #[.pointer (some ⟨d, 0, none⟩), .agg #[.int .i64 e, lv]] w (SaveAt A d g m D e xs w) := by
  have hb0 := hidden ((Below.refl w.heap.size w).alloc (Nat.le_refl _) (rtO e lv))
  have hBy := hidden (rtBytes_any A e lv xs _ (hr.below hb0.out (Nat.le_refl _)) ((hE.sub (by decide)).below hb0.out (Nat.le_refl _)))
  have hbx := hidden (fun W hW => boxAt_of (w := w) (W := W) (e := e) (l := lv) hW)
  have hdk := hidden (fun W (hW : Below w.heap.size w W) => h.below hW (Nat.le_refl _))
  have hEr := hidden (fun W (hW : Below w.heap.size w W) => hE.below hW (Nat.le_refl _))
  have hlt := hidden (show d < w.heap.size ∧ g < w.heap.size ∧ m < w.heap.size from ⟨h.dlt, h.glt, h.mlt⟩)
  clear hb0 hE hr
  by_cases h0 : rtC e xs = 0
  · have hok := rtC_ok.1 h0
    have e0 := hok.e0
    have e1 := hok.e1
    have hsec := hidden (rtB_ok hok)
    have he0 : errOf A (rtC e xs) = .nilIface := by rw [h0]; rfl
    have h00 := hidden h0
    clear h hok
    go_enter Tryd.func17, Tryd.ntmps17
    go_wp2_with fail
    refine hBy.out.mono ?_
    rintro r w1 ⟨hb1, v1, rfl, hv1⟩
    rw [he0]
    rcases hv1 with ⟨_, gb, rfl, hg, hB1⟩ | ⟨hne, _⟩
    · have hx1 := hidden (hbx.out _ hb1)
      have c0 := hx1.out.c0
      have hd1 := hidden (hdk.out _ hx1.out.low)
      have hap := hidden (show ∀ b, (Value.slice (some ⟨gb, 0, none⟩) 128 128).ownBlock = some b → ¬ dskB d g m b from fun b hb hs => by
        simp only [Value.ownBlock, Option.some.injEq] at hb
        subst hb
        have := hlt.out
        simp at hg
        rcases hs with rfl | rfl | rfl <;> omega)
      have hWr := hidden (write_any A hd1.out (e % 2) (xs := rtB e xs) ((hEr.out _ hx1.out.low).sub (by decide)) (hB1.reads hsec.out.1 (by decide)) hap.out hsec.out.2)
      have hl := hidden hsec.out.1
      have hE2 := hidden (hEr.out _ hx1.out.low)
      have hlow := hidden hx1.out.low
      have hmod : (0 : Int) ≤ e % 2 ∧ e % 2 < 2 := by omega
      clear hb1 hB1 hap hBy he0 h0 hx1 hbx hdk hEr hg
      go_wp2_with fail
      refine hWr.out.mono ?_
      rintro r w2 ⟨rfl, hd2, ht2⟩
      rw [hl.out]
      by_cases hw : wrC D (e % 2) 128 = 0
      · rw [hw]
        have he0 : errOf A 0 = .nilIface := rfl
        rw [he0]
        have hFl := hidden (flush_any A hd2 ((hE2.out.disk hd1.out ht2).sub (by decide)))
        have ht3 := hidden ((Trd.of_below hlow.out (Nat.le_refl _)).trans ht2)
        replace hw := hidden hw
        clear hd2 ht2 hE2 he0
        go_wp2_with fail
        refine hFl.out.mono ?_
        rintro r w3 ⟨rfl, hd3, ht4⟩
        replace hd3 := hidden hd3
        replace ht4 := hidden (ht3.out.trans ht4)
        have e1 := hidden (show svC D e xs = flC (wrD D (e % 2) (rtB e xs)) by rw [svC, if_neg (by simp [h00.out]), if_neg (by simp [hw.out])])
        have e2 := hidden (show svD D e xs = flD (wrD D (e % 2) (rtB e xs)) by rw [svD, if_neg (by simp [h00.out]), if_neg (by simp [hw.out])])
        go_wp2
        go_ret
        exact ⟨by rw [e1.out]; rfl, by rw [e2.out]; exact hd3.out, ht4.out⟩
      · obtain ⟨j, hj⟩ := errOf_at (A := A) hw
        rw [hj]
        have ht3 := hidden ((Trd.of_below hlow.out (Nat.le_refl _)).trans ht2)
        have e1 := hidden (show svC D e xs = wrC D (e % 2) 128 by rw [svC, if_neg (by simp [h00.out]), if_pos hw])
        have e2 := hidden (show svD D e xs = wrD D (e % 2) (rtB e xs) by rw [svD, if_neg (by simp [h00.out]), if_pos hw])
        replace hd2 := hidden hd2
        replace hj := hidden hj
        clear ht2 hw
        go_wp2_with fail
        go_ret
        exact ⟨by rw [e1.out, hj.out]; rfl, by rw [e2.out]; exact hd2.out, ht3.out⟩
    · exact absurd h0 hne
  · obtain ⟨j, hj⟩ := errOf_at (A := A) h0
    have e1 := hidden (show svC D e xs = rtC e xs by rw [svC, if_pos h0])
    have e2 := hidden (show svD D e xs = D by rw [svD, if_pos h0])
    replace h0 := hidden h0
    clear h
    go_enter Tryd.func17, Tryd.ntmps17
    go_wp2_with fail
    refine hBy.out.mono ?_
    rintro r w1 ⟨hb1, v1, rfl, hv1⟩
    rw [hj]
    rcases hv1 with ⟨hne, _⟩ | ⟨_, rfl⟩
    · exact absurd hne h0.out
    · have hx1 := hidden (hbx.out _ hb1)
      have hd1 := hidden (hdk.out _ hx1.out.low)
      replace hj := hidden hj
      clear hb1
      go_wp2_with fail
      go_ret
      exact ⟨by rw [e1.out, hj.out]; rfl, by rw [e2.out]; exact hd1.out, Trd.of_below hx1.out.low (Nat.le_refl _)⟩

/-! Load -/
def ev (L : Option (Int × List Int)) : Int := match L with | none => 0 | some p => p.1
def lvL (L : Option (Int × List Int)) : List Int := match L with | none => [] | some p => p.2
def better (L M : Option (Int × List Int)) : Option (Int × List Int) := match M with | none => L | some p => if ev L < p.1 then some p else L
def bestK (D : Dk) : Nat → Option (Int × List Int)
  | 0 => none
  | k + 1 => better (bestK D k) (rootOf (D.see k))
def loadOf (D : Dk) : Option (Int × List Int) := bestK D 2
def ldC (D : Dk) : Int := if D.down = true then 109 else if D.n < 2 then 108 else 0
def ldO (D : Dk) : Option (Int × List Int) := if ldC D = 0 then loadOf D else none
def LoadAt (A : Nat → Addr) (D : Dk) (w : World) (r : Ending) (w' : World) : Prop :=
  Below w.heap.size w w' ∧ ∃ v, r = .returned (.tuple #[.agg #[.int .i64 (ev (ldO D)), v], .bool (ldO D).isSome, errOf A (ldC D)]) ∧ Reads .i64 w' v (lvL (ldO D)) ∧ (∀ b, v.ownBlock = some b → w.heap.size ≤ b) ∧ (ldO D = none → v = .slice none 0 0)
theorem rdC_ld {D : Dk} (hn : 1 ≤ D.n) {k : Nat} (hk : k < 2) (h : rdC D k ≠ 0) : ldC D = rdC D k := by
  unfold rdC ldC at *
  by_cases hd : D.down = true
  · simp [hd]
  · simp only [hd, if_false, Bool.false_eq_true] at h ⊢
    by_cases h1 : 0 ≤ (k : Int) ∧ (k : Int) < (D.n : Int)
    · rw [if_pos h1] at h; exact absurd rfl h
    · rw [if_neg h1, if_pos (by omega)]
theorem ldC_ok {D : Dk} (h : ∀ j : Nat, j < 2 → rdC D j = 0) : ldC D = 0 := by
  have h1 := h 1 (by omega)
  unfold rdC at h1
  unfold ldC
  split at h1
  · omega
  · rename_i hd
    rw [if_neg hd]
    split at h1
    · rw [if_neg (by omega)]
    · omega
theorem rdC_down {D : Dk} {k : Nat} (h : rdC D k = 0) : k < D.n := by
  unfold rdC at h
  split at h
  · omega
  · split at h
    · omega
    · omega
/-- Load's rounds. -/
structure LdAt (w wr : World) (L : Option (Int × List Int)) (v : Value) : Prop where
  h5 : wr.heap[w.heap.size + 1]? = some (rtO (ev L) v)
  h0 : wr.heap[w.heap.size]? = some (rtO 0 (.slice none 0 0))
  low : Below w.heap.size w wr
  rd : Reads .i64 wr v (lvL L)
  fr : ∀ b, v.ownBlock = some b → w.heap.size + 1 < b
  nn : L = none → v = .slice none 0 0
section
variable {w wr wy : World} {L : Option (Int × List Int)} {v : Value}
theorem LdAt.below (h : LdAt w wr L v) (hb : Below wr.heap.size wr wy) : LdAt w wy L v := by
  have l := fun k o (hk : wr.heap[k]? = some o) => hb.block k (Array.getElem?_eq_some_iff.1 hk).1
  exact ⟨(l _ _ h.h5).trans h.h5, (l _ _ h.h0).trans h.h0, h.low.trans (hb.mono h.low.size), h.rd.below hb (Nat.le_refl _), h.fr, h.nn⟩
theorem LdAt.c0 (h : LdAt w wr L v) : wr.cell? ⟨w.heap.size + 1, 0, none⟩ = some (.int .i64 (ev L)) := by rw [cell_of_row _ _ _ _ _ _ h.h5]; rfl
theorem LdAt.c1 (h : LdAt w wr L v) : wr.cell? ⟨w.heap.size + 1, 1, none⟩ = some v := by rw [cell_of_row _ _ _ _ _ _ h.h5]; rfl
theorem LdAt.d0 (h : LdAt w wr L v) : wr.cell? ⟨w.heap.size, 0, none⟩ = some (.int .i64 0) := by rw [cell_of_row _ _ _ _ _ _ h.h0]; rfl
theorem LdAt.d1 (h : LdAt w wr L v) : wr.cell? ⟨w.heap.size, 1, none⟩ = some (.slice none 0 0) := by rw [cell_of_row _ _ _ _ _ _ h.h0]; rfl
theorem LdAt.f5 (h : LdAt w wr L v) (j : Nat) : wr.frozen? ⟨w.heap.size + 1, j, none⟩ = false := by simp [World.frozen?, h.h5]
theorem LdAt.f0 (h : LdAt w wr L v) (j : Nat) : wr.frozen? ⟨w.heap.size, j, none⟩ = false := by simp [World.frozen?, h.h0]
theorem LdAt.lt (h : LdAt w wr L v) : w.heap.size + 1 < wr.heap.size := (Array.getElem?_eq_some_iff.1 h.h5).1
theorem reads_setCell {k : IntKind} {u : Value} {xs : List Int} {a : Addr} {x : Value} (h : Reads k wr u xs) (hf : ∀ b, u.ownBlock = some b → b ≠ a.block) : Reads k (wr.setCell a x) u xs :=
  h.trd (S := (· = a.block)) (Trd.setCell wr a x rfl) fun b hb hs => hf b hb hs
theorem LdAt.set (h : LdAt w wr L v) (e : Int) (u : Value) (xs : List Int) (hr : Reads .i64 wr u xs) (hf : ∀ b, u.ownBlock = some b → w.heap.size + 1 < b) : LdAt w ((wr.setCell ⟨w.heap.size + 1, 0, none⟩ (.int .i64 e)).setCell ⟨w.heap.size + 1, 1, none⟩ u) (some (e, xs)) u := by
  refine ⟨root_stored h.h5 e u, ?_, (h.low.setCell (Nat.le_succ _) _).setCell (Nat.le_succ _) _, ?_, hf, fun q => by cases q⟩
  · rw [Below.heap_setCell _ _ _ _ (by show w.heap.size ≠ w.heap.size + 1; omega), Below.heap_setCell _ _ _ _ (by show w.heap.size ≠ w.heap.size + 1; omega)]
    exact h.h0
  · exact reads_setCell (reads_setCell hr fun b hb => by have := hf b hb; show b ≠ w.heap.size + 1; omega) fun b hb => by have := hf b hb; show b ≠ w.heap.size + 1; omega
end
theorem ldAt_new (w : World) : LdAt w ((w.alloc (rtO 0 (.slice none 0 0))).alloc (rtO 0 (.slice none 0 0))) none (.slice none 0 0) := by
  have hs : ∀ (W : World) (o : Obj), (W.alloc o).heap.size = W.heap.size + 1 := fun W o => by simp
  have e2 := heap_alloc_new (w.alloc (rtO 0 (.slice none 0 0))) (rtO 0 (.slice none 0 0))
  rw [hs] at e2
  refine ⟨e2, ?_, ((Below.refl w.heap.size w).alloc (Nat.le_refl _) _).alloc (by simp) _, Reads.nil _ _, (fun b hb => by cases hb), fun _ => rfl⟩
  rw [Below.heap_alloc _ _ _ (by simp)]
  exact heap_alloc_new w _
def LdRel (D : Dk) (w : World) (f i : Value) (wr : World) : Prop := ∃ (k : Nat) (v : Value), k ≤ 2 ∧ i = .int .i64 (k : Int) ∧ f = .bool (bestK D k).isSome ∧ (∀ j, j < k → rdC D j = 0) ∧ LdAt w wr (bestK D k) v
theorem rootOf_pos {b : List Int} {e : Int} {xs : List Int} (h : rootOf b = some (e, xs)) : 1 ≤ e ∧ e ≤ 1099511627776 := ⟨(rootOf_some h).1.e0, (rootOf_some h).1.e1⟩
theorem bestK_ev (D : Dk) : ∀ k, 0 ≤ ev (bestK D k) ∧ ev (bestK D k) ≤ 1099511627776
  | 0 => by simp [bestK, ev]
  | k + 1 => by
    have ih := bestK_ev D k
    unfold bestK better
    cases h : rootOf (D.see k) with
    | none => exact ih
    | some p =>
      have := rootOf_pos (e := p.1) (xs := p.2) h
      simp only
      split
      · simp only [ev]; omega
      · exact ih
set_option maxRecDepth 100000 in
set_option maxHeartbeats 1600000 in
theorem load_any (A : Nat → Addr) {w : World} {d g m : Nat} {D : Dk} (h : DiskAt w d g m D) (hE : ErrsOn [2, 4, 7, 8] w A) :
    Calls Tryd.prog 20 #[.pointer (some ⟨d, 0, none⟩)] w (LoadAt A D w) := by
  have hst := hidden (ldAt_new w)
  have hdk := hidden (fun W (hW : Below w.heap.size w W) => h.below hW (Nat.le_refl _))
  have hEr := hidden (fun W (hW : Below w.heap.size w W) => hE.below hW (Nat.le_refl _))
  have hn1 := hidden h.ok.n0
  have hsec := hidden (fun i (hi : i < D.n) => h.ok.see i hi)
  clear h hE
  go_enter Tryd.func20, Tryd.ntmps20
  go_wp2_with fail
  go_loopw [6, 12] (fun f i wr => LdRel D w f i wr) (fun _ i _ => 2 - (RowKit.intOf i).toNat)
  case atStart => exact ⟨0, _, by omega, rfl, rfl, (fun j hj => by omega), hst.out⟩
  case round =>
    clear hst
    obtain ⟨k, v, hk, rfl, rfl, hz, hL⟩ := hrel
    obtain ⟨va, vc, rfl⟩ := reads_slice hL.rd
    replace hz := hidden hz
    by_cases hlt : k < 2
    · have hki : (k : Int) < 2 := by omega
      have hRd := hidden (read_any A (hdk.out _ hL.low) k ((hEr.out _ hL.low).sub (by decide)))
      replace hL := hidden hL
      go_wp2_with fail
      refine hRd.out.mono ?_
      rintro r w1 ⟨hb1, v1, rfl, hv1⟩
      have hL1 := hidden (hL.out.below hb1)
      rcases hv1 with ⟨h0, gb, rfl, _, hr1⟩ | ⟨h0, rfl⟩
      · rw [h0]
        have he0 : errOf A 0 = .nilIface := rfl
        rw [he0]
        have hkn := rdC_down h0
        rw [Int.toNat_natCast] at hr1
        have hRt := hidden (rtRead_any A _ (D.see k) w1 hr1 ((hEr.out _ hL1.out.low).sub (by decide)) (hsec.out k hkn).2)
        have hz1 := hidden (show ∀ j, j < k + 1 → rdC D j = 0 from fun j hj => by
          by_cases e : j = k
          · subst e; exact h0
          · exact hz.out j (by omega))
        have hbk := hidden (show bestK D (k + 1) = better (bestK D k) (rootOf (D.see k)) from rfl)
        clear h0 hb1 hr1 hkn he0 hL hRd
        go_wp2_with fail
        refine hRt.out.mono ?_
        rintro r w2 ⟨hb2, hv2⟩
        have hL2 := hidden (hL1.out.below hb2)
        rcases hv2 with ⟨e, xs, u, hro, rfl, hru, hfu⟩ | ⟨hro, rfl⟩
        · obtain ⟨ua, uc, rfl⟩ := reads_slice hru
          have hb3 := hidden (fun o => (Below.refl w2.heap.size w2).alloc (Nat.le_refl _) o)
          have hL3 := hidden (hL2.out.below (hb3.out (rtO e (.slice ua xs.length uc))))
          have c0 := hL3.out.c0
          have c1 := hL3.out.c1
          have f0 := hL3.out.f5 0
          have f1 := hL3.out.f5 1
          by_cases hgt : ev (bestK D k) < e
          · have hbe := hidden (show bestK D (k + 1) = some (e, xs) by rw [hbk.out, hro]; simp [better, hgt])
            have hL4 := hidden (hL3.out.set e _ xs (hru.below (hb3.out (rtO e (.slice ua xs.length uc))) (Nat.le_refl _)) (fun b hb => by have := hfu b hb; have := hL1.out.lt; omega))
            clear hb2 hru hfu hro
            generalize ev (bestK D k) = E at *
            generalize (bestK D k).isSome = F at *
            go_wp2_with fail
            go_roundw
            case rel => exact ⟨k + 1, _, by omega, by go_num, by rw [hbe.out]; rfl, hz1.out, by rw [hbe.out]; exact hL4.out⟩
            case measure => simp [RowKit.intOf]; omega
          · have hbe := hidden (show bestK D (k + 1) = bestK D k by rw [hbk.out, hro]; simp [better, hgt])
            clear hb2 hru hfu hro
            replace hbk := hidden hbk
            have hsm := hidden (rfl : (bestK D k).isSome = (bestK D k).isSome)
            go_wp2_with fail
            go_roundw
            case rel => exact ⟨k + 1, _, by omega, by go_num, by rw [hbe.out], hz1.out, by rw [hbe.out]; exact hL3.out⟩
            case measure => simp [RowKit.intOf]; omega
        · have hbe := hidden (show bestK D (k + 1) = bestK D k by rw [hbk.out, hro]; rfl)
          have hb3 := hidden (fun o => (Below.refl w2.heap.size w2).alloc (Nat.le_refl _) o)
          have hL3 := hidden (hL2.out.below (hb3.out (rtO 0 (.slice none 0 0))))
          clear hb2 hro
          go_wp2_with fail
          go_roundw
          case rel => exact ⟨k + 1, _, by omega, by go_num, by rw [hbe.out], hz1.out, by rw [hbe.out]; exact hL3.out⟩
          case measure => simp [RowKit.intOf]; omega
      · obtain ⟨j, hj⟩ := errOf_at (A := A) h0
        have hc := hidden (rdC_ld hn1.out hlt h0)
        have ho := hidden (show ldO D = none by rw [ldO, hc.out, if_neg h0])
        rw [hj]
        have d0 := hL1.out.d0
        have d1 := hL1.out.d1
        have f0 := hL1.out.f0 0
        have f1 := hL1.out.f0 1
        replace hj := hidden hj
        clear hb1 h0
        go_wp2_with fail
        refine root_end3 rfl rfl rfl rfl rfl (root_stored hL1.out.h0 _ _) ⟨(hL1.out.low.setCell (Nat.le_refl _) _).setCell (Nat.le_refl _) _, .slice none 0 0, ?_, ?_, (fun b hb => by cases hb), fun _ => rfl⟩
        · rw [ho.out, hc.out, hj.out]; rfl
        · rw [ho.out]; exact Reads.nil _ _
    · obtain rfl : k = 2 := by omega
      have hc := hidden (ldC_ok hz.out)
      have ho := hidden (show ldO D = bestK D 2 by rw [ldO, hc.out, if_pos rfl]; rfl)
      have c0 := hL.c0
      have c1 := hL.c1
      have d0 := hL.d0
      have d1 := hL.d1
      have f0 := hL.f0 0
      have f1 := hL.f0 1
      replace hL := hidden hL
      rw [← ho.out] at *
      replace ho := hidden ho.out
      go_wp2_with fail
      refine root_end3 rfl rfl rfl rfl rfl (root_stored hL.out.h0 _ _) ⟨(hL.out.low.setCell (Nat.le_refl _) _).setCell (Nat.le_refl _) _, .slice va (lvL (ldO D)).length vc, ?_, ?_, ?_, ?_⟩
      · rw [hc.out]; rfl
      · exact reads_setCell (reads_setCell hL.out.rd fun b hb => by have := hL.out.fr b hb; show b ≠ w.heap.size; omega) fun b hb => by have := hL.out.fr b hb; show b ≠ w.heap.size; omega
      · exact fun b hb => by have := hL.out.fr b hb; omega
      · exact fun q => hL.out.nn q
end Go.Proofs.YtcjjjoodnddoeaaDoor
