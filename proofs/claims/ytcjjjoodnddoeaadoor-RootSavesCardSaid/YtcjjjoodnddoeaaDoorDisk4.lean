/-
  disk.Read.
-/
import Derived.Test.YtcjjjoodnddoeaaDoorDisk3
import Derived.Deep.WholeRow
namespace Go.Proofs.YtcjjjoodnddoeaaDoor
open Go.RowKit Go.Maps
set_option linter.unusedVariables false

section
variable {w : World} {ops : Array Oper} {rest : List Oper} {o : Oper} {a : Act} {Q : Exit → Act → World → Prop}
theorem sec_zero (w : World) : (zeroValue 73).run Tryd.prog w = .ok (aggV (List.replicate 128 0)) w := by
  obtain ⟨i0, hi, hz0, _, _⟩ := info_parts sec_info
  simp [zeroValue, typeInfo, hi, hz0]
theorem look_sec {v : Value} {ps : List (Int × List Int)} {i : Int} {qs : List MemPlace} {Z : List Int} (h : secR v = some ((dat ps).atKey (.int .i64 i) (.held Z), qs)) : v = aggV ((pget ps i).getD Z) := by
  obtain ⟨xs, rfl, e, _⟩ := secR_inv h
  rw [dat_atKey] at e
  have e1 := congrArg Prod.fst e
  simp only at e1
  cases hp : pget ps i with
  | none => rw [hp] at e1; simp only [Option.map_none, Option.getD_none, DataW.held.injEq] at e1; rw [← e1]; rfl
  | some s => rw [hp] at e1; simp only [Option.map_some, Option.getD_some, DataW.held.injEq] at e1; rw [← e1]; rfl
/-- 's, ok := d.pending[i]'. -/
theorem wpList_look2 (hg : o.guard = none) (m x : Operand) (hop : o.op = Op.lookup 65 m x true) (b n : Nat) (ps : List (Int × List Int)) (hm : a.eval m = .map (some b)) (hown : w.ownsMap Tryd.prog 3 secR b n (dat ps)) (i : Int) (hx : a.eval x = .int .i64 i)
    (h1 : -9223372036854775808 ≤ i) (h2 : i ≤ 9223372036854775807) (X : List Int) (B : Bool) (hX : (pget ps i).getD (List.replicate 128 0) = X) (hB : (pget ps i).isSome = B)
    (hK : wpList Tryd.prog ops Q rest (a.put o.dst (.tuple #[aggV X, .bool B])) w) : wpList Tryd.prog ops Q (o :: rest) a w :=
  wpList_lookup_own_ok w hg m x 65 hop 3 73 sec_key Tryd.underlying65 secR (sec_zero w) (.held (List.replicate 128 0)) [] (secR_mk (secOk_rep (by omega))) b n (dat ps) hm hown _ _ hx (keyOf_int_mk Tryd.underlying3 (a := i) (WalkArith.wf_i64 (by omega)))
    (fun v qs hv => by rw [look_sec hv, dat_has, hX, hB]; exact hK)
/-- 's := d.pending[i]'. -/
theorem wpList_look1 (hg : o.guard = none) (m x : Operand) (hop : o.op = Op.lookup 65 m x false) (b n : Nat) (ps : List (Int × List Int)) (hm : a.eval m = .map (some b)) (hown : w.ownsMap Tryd.prog 3 secR b n (dat ps)) (i : Int) (hx : a.eval x = .int .i64 i)
    (h1 : -9223372036854775808 ≤ i) (h2 : i ≤ 9223372036854775807) (X : List Int) (hX : (pget ps i).getD (List.replicate 128 0) = X)
    (hK : wpList Tryd.prog ops Q rest (a.put o.dst (aggV X)) w) : wpList Tryd.prog ops Q (o :: rest) a w := by
  refine wpList_plain hg fun K' hK' => ?_
  obtain ⟨v, qs, hrun, hv⟩ := hown.lookup sec_key Tryd.underlying65 (sec_zero w) (secR_mk (secOk_rep (x := 0) (by omega))) (keyOf_int_mk Tryd.underlying3 (a := i) (WalkArith.wf_i64 (by omega)))
  have e := look_sec hv
  rw [hX] at e
  subst e
  unfold Oper.wp
  simp [execOp, hop, hm, hx, hrun, Result.andThen]
  exact hK' _ _ hK
/-- a whole array into the block that was made last. -/
theorem wpList_store_new {P : Program} (hgd : o.guard = none) (ty : TypeId) (x y : Operand) (ho : o.op = .store ty x y) (W : World) (c c' : Array Value) (hx : a.eval x = .pointer (some ⟨W.heap.size, 0, none⟩)) (hy : a.eval y = .agg c')
    (hi : (P.info? ty).map (·.size) = some c'.size) (hs : c.size = c'.size) (h1 : c'.all (·.oneCell') = true)
    (h : wpList P ops Q rest (a.put o.dst undef) (W.alloc (.cells c' ty))) : wpList P ops Q (o :: rest) a (W.alloc (.cells c ty)) := by
  refine wpList_plain hgd fun K' hK' => ?_
  have hrun := run_storeAt_new (P := P) W ty c c' hi hs h1
  unfold Oper.wp execOp
  simp only [ho, hx, hy, hrun, Sem.run_bind, Result.andThen]
  exact hK' _ _ h
end

def rdC (D : Dk) (i : Int) : Int := if D.down = true then 109 else if 0 ≤ i ∧ i < D.n then 0 else 108
def ReadAt (A : Nat → Addr) (D : Dk) (i : Int) (w : World) (e : Ending) (w' : World) : Prop :=
  Below w.heap.size w w' ∧ ∃ v, e = .returned (.tuple #[v, errOf A (rdC D i)]) ∧ ((rdC D i = 0 ∧ ∃ g, v = .slice (some ⟨g, 0, none⟩) 128 128 ∧ w.heap.size ≤ g ∧ Reads .u8 w' v (D.see i.toNat)) ∨ (rdC D i ≠ 0 ∧ v = .slice none 0 0))
theorem rd_down {A : Nat → Addr} {D : Dk} {i : Int} {w : World} (w' : World) (h : D.down = true) (hb : Below w.heap.size w w') : ReadAt A D i w (.returned (.tuple #[.slice none 0 0, errAt (A 8)])) w' := by
  have e : rdC D i = 109 := by simp [rdC, h]
  refine ⟨hb, _, by rw [e]; rfl, .inr ⟨by rw [e]; decide, rfl⟩⟩
theorem rd_full {A : Nat → Addr} {D : Dk} {i : Int} {w : World} (w' : World) (h : D.down = false) (h0 : ¬ (0 ≤ i ∧ i < D.n)) (hb : Below w.heap.size w w') : ReadAt A D i w (.returned (.tuple #[.slice none 0 0, errAt (A 7)])) w' := by
  have e : rdC D i = 108 := by simp [rdC, h, h0]
  refine ⟨hb, _, by rw [e]; rfl, .inr ⟨by rw [e]; decide, rfl⟩⟩
theorem rd_fine {A : Nat → Addr} {D : Dk} {k : Nat} {w : World} (h : D.down = false) (h0 : k < D.n) (X : List Int) (hX : D.see k = X) (hl : X.length = 128) (e0 : TypeId) : ReadAt A D k w (.returned (.tuple #[.slice (some ⟨w.heap.size, 0, none⟩) 128 128, .nilIface])) (w.alloc (.cells (secV X).toArray e0)) := by
  have e : rdC D k = 0 := by simp [rdC, h, h0]
  refine ⟨(Below.refl _ w).alloc (Nat.le_refl _) _, _, by rw [e]; rfl, .inl ⟨e, _, rfl, Nat.le_refl _, ?_⟩⟩
  rw [Int.toNat_natCast, hX]
  exact reads_new _ X 128 hl rfl (by omega)

set_option maxRecDepth 100000 in
set_option maxHeartbeats 4000000 in
theorem read_any (A : Nat → Addr) {w : World} {d g m : Nat} {D : Dk} (h : DiskAt w d g m D) (i : Int) (hE : ErrsOn [7, 8] w A) :
    Calls Tryd.prog 35 #[.pointer (some ⟨d, 0, none⟩), .int .i64 i] w (ReadAt A D i w) := by
  obtain ⟨cap, ⟨c0, c1, _, _, c4⟩, _⟩ := h.five
  have k7 := hE 7 (by decide)
  have k8 := hE 8 (by decide)
  simp [sentG] at k7 k8
  clear hE
  have hH := hidden (has_any h i)
  cases hdn : D.down with
  | true =>
    have hr := hidden (@rd_down A D i w)
    rw [hdn] at c4
    replace hdn := hidden hdn
    clear h c0 c1
    go_enter Tryd.func35, Tryd.ntmps35
    go_wp2_with fail
    go_quiet (fail)
    go_wp2
    go_ret2
    exact hr.out _ hdn.out (below_drewN (Below.refl _ _))
  | false =>
    rw [hdn] at c4
    by_cases hi : 0 ≤ i ∧ i < (D.n : Int)
    · obtain ⟨k, rfl⟩ : ∃ k : Nat, i = (k : Int) := ⟨i.toNat, by omega⟩
      have hk : k < D.n := by omega
      have hkn := h.ok.n1
      have hk8 : (k : Int) ≤ 8192 := by omega
      have hk9 : (k : Int) < (D.n : Int) := by omega
      have hi1 := hidden (show decide (0 ≤ (k : Int) ∧ (k : Int) < (D.n : Int)) = true by simp [hk])
      have hsk := h.ok.see k hk
      have hfk := h.ok.fl k hk
      have hrow := (h.rows k hk).1
      have hm := h.map
      have c0' : ∀ o, (w.alloc o).cell? ⟨d, 0, none⟩ = some (.slice (some ⟨g, 0, none⟩) D.n cap) := fun o => by rw [World.cell?_alloc_lt _ _ _ h.dlt]; exact c0
      have hu := Tryd.underlying73
      have hz : ∀ W, (zeroValue 73).run Tryd.prog W = .ok (.agg (secV (List.replicate 128 0)).toArray) W := fun W => sec_zero W
      have hZl : (secV (List.replicate 128 0)).toArray.size = 128 := by simp [secV_len]
      have hZa : (secV (List.replicate 128 0)).toArray.all (·.oneCell') = true := all_oneCell_toArray (secV_one _)
      have hX0 : (pget D.ps k).getD (List.replicate 128 0) = (pget D.ps k).getD (List.replicate 128 0) := rfl
      have hsee : D.see k = (pget D.ps k).getD (D.fl k) := rfl
      have hsz : ∀ X : List Int, X.length = 128 → (Tryd.prog.info? 73).map (·.size) = some (secV X).length := fun X hX => by rw [sec_size, secV_len, hX]
      have hrd := hidden (@rd_fine A D k w hdn hk)
      have hZ0 : (List.replicate 128 (0 : Int)).length = 128 := by simp
      generalize hZ : List.replicate 128 (0 : Int) = Z at *
      replace hdn := hidden hdn
      clear h hk k7 k8 hkn hX0 hi
      cases hp : pget D.ps k with
      | none =>
        rw [hp] at hsee
        simp only [Option.getD_none] at hsee
        have hl1 := hidden hfk.1
        have hs2 := hidden (hsz _ hfk.1)
        have hend := hidden (hrd.out _ hsee hl1.out)
        have hp1 := hidden (show (pget D.ps k).getD (List.replicate 128 0) = Z by rw [hp, ← hZ]; rfl)
        have hp2 := hidden (show (pget D.ps k).isSome = false by rw [hp]; rfl)
        have hfa := hidden (all_oneCell_toArray (secV_one (D.fl k)))
        have hsz1 := hidden (show (Tryd.prog.info? 73).map (·.size) = some (secV Z).toArray.size by rw [hZl]; exact sec_size)
        have hsz2 := hidden (show (Tryd.prog.info? 73).map (·.size) = some (secV (D.fl k)).toArray.size by simpa using hs2.out)
        have hq2 := hidden (show (secV Z).toArray.size = (secV (D.fl k)).toArray.size by rw [hZl]; simp [secV_len, hl1.out])
        have hZa' := hidden hZa
        have hrow' := hidden (fun o => World.rangeAt_alloc hrow o)
        clear hp hsee hsk hfk hrd hsz hZa hrow hZ hZ0 hZl
        go_enter Tryd.func35, Tryd.ntmps35
        go_wp2_with (first
          | (go_at_call 37; have hh := hH.out; rw [hi1.out] at hh; refine hh.mono ?_; clear hh; rintro e w' ⟨rfl, rfl⟩)
          | (refine wpList_look2 rfl _ _ rfl m _ _ rfl hm _ rfl (by omega) (by omega) Z false hp1.out hp2.out ?_)
          | (refine wpList_store_new rfl 73 _ _ rfl w _ (secV Z).toArray rfl rfl hsz1.out rfl hZa'.out ?_)
          | (refine wpList_store_new rfl 73 _ _ rfl w _ (secV (D.fl k)).toArray rfl rfl hsz2.out hq2.out hfa.out ?_)
          | (refine wpList_load_mid rfl 73 _ rfl g _ rfl (secV (D.fl k)) _ (hrow'.out _) hu rfl hs2.out ?_)
          | go_in)
        go_ret2
        exact hend.out _
      | some s =>
        rw [hp] at hsee
        simp only [Option.getD_some] at hsee
        rw [hsee] at hsk
        have hs2 := hidden (hsz _ hsk.1)
        have hend := hidden (hrd.out _ hsee hsk.1)
        have hp1 := hidden (show (pget D.ps k).getD (List.replicate 128 0) = s by rw [hp]; rfl)
        have hp2 := hidden (show (pget D.ps k).isSome = true by rw [hp]; rfl)
        have hfa := hidden (all_oneCell_toArray (secV_one s))
        have hsz2 := hidden (show (Tryd.prog.info? 73).map (·.size) = some (secV s).toArray.size by simpa using hs2.out)
        have hq2 := hidden (show (secV Z).toArray.size = (secV s).toArray.size by rw [hZl]; simp [secV_len, hsk.1])
        clear hp hsee hsk hfk hrd hsz hZa hrow hZ hZ0 hZl
        go_enter Tryd.func35, Tryd.ntmps35
        go_wp2_with (first
          | (go_at_call 37; have hh := hH.out; rw [hi1.out] at hh; refine hh.mono ?_; clear hh; rintro e w' ⟨rfl, rfl⟩)
          | (refine wpList_look2 rfl _ _ rfl m _ _ rfl hm _ rfl (by omega) (by omega) s true hp1.out hp2.out ?_)
          | (refine wpList_store_new rfl 73 _ _ rfl w _ (secV s).toArray rfl rfl hsz2.out hq2.out hfa.out ?_)
          | go_in)
        go_ret2
        exact hend.out _
    · have hr := hidden (@rd_full A D i w)
      have hi1 := hidden (show decide (0 ≤ i ∧ i < (D.n : Int)) = false by simp only [hi, decide_false])
      replace hdn := hidden hdn
      replace hi := hidden hi
      clear h c0 c1
      go_enter Tryd.func35, Tryd.ntmps35
      go_wp2_with (go_at_call 37; have hh := hH.out; rw [hi1.out] at hh; refine hh.mono ?_; clear hh; rintro e w' ⟨rfl, rfl⟩)
      go_quiet (fail)
      go_wp2
      go_ret2
      exact hr.out _ hdn.out hi.out (below_drewN (Below.refl _ _))
end Go.Proofs.YtcjjjoodnddoeaaDoor
