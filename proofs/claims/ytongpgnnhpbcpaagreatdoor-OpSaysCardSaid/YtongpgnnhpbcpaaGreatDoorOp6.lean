/-
  Package op: Parse.
-/
import Derived.Test.YtongpgnnhpbcpaaGreatDoorOp5
namespace Go.Proofs.YtongpgnnhpbcpaaGreatDoor
open Go.RowKit
set_option linter.unusedVariables false

/-- the slice v reads as the words ws. -/
abbrev Wds (w : World) (v : Value) (ws : List (List UInt8)) : Prop := Row wdF 1 w v ws
def PaAt25 (A : Nat → Addr) (ws : List (List UInt8)) (w : World) (e : Ending) (w' : World) : Prop :=
  e = .returned (.tuple #[opV (paR ws), errOf A (paC ws)]) ∧ Below w.heap.size w w'
theorem pa_ret {A : Nat → Addr} {ws : List (List UInt8)} {c : Int} {a : Addr} (h : paC ws = c) (h0 : c ≠ 0) (ha : errOf A c = errAt a) : Ending.returned (.tuple #[opV zeO, errAt a]) = .returned (.tuple #[opV (paR ws), errOf A (paC ws)]) := by
  rw [pa_bad (by rw [h]; exact h0), h, ha]
set_option maxRecDepth 100000 in
set_option maxHeartbeats 3200000 in
theorem parse_few (A : Nat → Addr) (v : Value) (ws : List (List UInt8)) (w : World) (hE : OpEnv A w) (hW : Wds w v ws) (hs : ws.length < 2) :
    Calls Tryz.prog 17 #[v] w (PaAt25 A ws w) := by
  obtain ⟨a, c, rfl⟩ := row_slice hW
  have hl : (ws.length : Int) < 2 := by omega
  have hw1 := hidden (show Below w.heap.size w (w.alloc zOb25) from (Below.refl _ _).alloc (Nat.le_refl _) _)
  have hr := hidden (show OpAt (w.alloc zOb25) w.heap.size zeO from ⟨heap_alloc_new w zOb25⟩)
  have c17 : (w.alloc zOb25).cell? ⟨5, 0, none⟩ = some (errAt (A 17)) := (hE.sents.on [17] (by decide)).below hw1.out (Nat.le_refl _) 17 (by simp)
  have hfin := hidden (pa_ret (A := A) (a := A 17) (pa_shape (pa_few hs)) (by decide) rfl)
  clear hE hW hs
  go_enter Tryz.func17, Tryz.ntmps17
  go_wp2_with fail
  go_region
  go_wp2
  exact op_end rfl rfl rfl rfl (show OpAt (w.alloc zOb25).drew w.heap.size zeO from ⟨hr.out.row⟩) ⟨hfin.out, hw1.out.drew⟩
theorem OpAt.drew {w : World} {g : Nat} {o : Opv} (h : OpAt w g o) : OpAt w.drew g o := ⟨h.row⟩
theorem cell_aside {w : World} {g k j : Nat} {u v : Value} (h : w.cell? ⟨k, 0, none⟩ = some v) (hne : k ≠ g) : (w.setCell ⟨g, j, none⟩ u).cell? ⟨k, 0, none⟩ = some v := by
  rw [World.cell?_of_block (w := w) (Below.heap_setCell _ _ _ _ (by simpa using hne))]
  exact h
theorem wds_some {w : World} {a : Option Addr} {n c : Nat} {ws : List (List UInt8)} (h : Wds w (.slice a n c) ws) (h0 : 0 < n) : ∃ b o, a = some ⟨b, o, none⟩ := by
  obtain ⟨b, o, e, _⟩ := Row.at wdF_len [] h 0 h0 (by decide)
  exact ⟨b, o, e⟩
theorem wds_cell {w : World} {b o n c : Nat} {ws : List (List UInt8)} (h : Wds w (.slice (some ⟨b, o, none⟩) n c) ws) (k : Nat) (hk : k < n) : w.cell? ⟨b, o + k, none⟩ = some (bsV (ws.getD k [])) := by
  obtain ⟨b', o', e, hc⟩ := Row.at wdF_len [] h k hk (by decide)
  simp only [Option.some.injEq, Addr.mk.injEq, and_true] at e
  obtain ⟨rfl, rfl⟩ := e
  have := hc 0 (by decide)
  rwa [Nat.mul_one, Nat.add_zero] at this
set_option maxRecDepth 100000 in
set_option maxHeartbeats 3200000 in
theorem parse_kind (A : Nat → Addr) (v : Value) (ws : List (List UInt8)) (w : World) (hE : OpEnv A w) (hW : Wds w v ws) (hs : 2 ≤ ws.length) (hk : paK ws = 0) :
    Calls Tryz.prog 17 #[v] w (PaAt25 A ws w) := by
  obtain ⟨a, c, rfl⟩ := row_slice hW
  obtain ⟨b, o, rfl⟩ := wds_some hW (by omega)
  obtain ⟨_, hnc, _, _⟩ := row_cap hW
  have hl : ¬ (ws.length : Int) < 2 := by omega
  have hl1 : (1 : Int) < (ws.length : Int) := by omega
  have hw1 := hidden (show Below w.heap.size w (w.alloc zOb25) from (Below.refl _ _).alloc (Nat.le_refl _) _)
  have hr := hidden (show OpAt (w.alloc zOb25) w.heap.size zeO from ⟨heap_alloc_new w zOb25⟩)
  have c17 := hidden (fun W (hb : Below w.heap.size w W) => show W.cell? ⟨5, 0, none⟩ = some (errAt (A 17)) from (hE.sents.on [17] (by decide)).below hb (Nat.le_refl _) 17 (by simp))
  have hfin := hidden (pa_ret (A := A) (a := A 17) (pa_shape (pa_kind hk)) (by decide) rfl)
  have k1 := wds_cell (hW.below wdF_len hw1.out (Nat.le_refl _)) 1 (by omega)
  have hK := hidden (kindOf_any ⟨(ws.getD 1 []).toArray⟩ (w.alloc zOb25) (hE.rows.below hw1.out (Nat.le_refl _)))
  have e0 : kdW ((⟨(ws.getD 1 []).toArray⟩ : ByteArray).data.toList) = 0 := hk
  rw [e0] at hK
  generalize ws.getD 1 [] = w1 at *
  clear hE hW hs e0 hk
  by_cases hc : c = 2
  · subst hc
    have hn2 : ws.length = 2 := by omega
    rw [hn2]
    rw [hn2] at hl hl1
    go_enter Tryz.func17, Tryz.ntmps17
    go_wp2_with fail
    refine hK.out.mono ?_
    rintro e w2 ⟨rfl, rfl⟩
    go_wp2_with fail
    have k17 := c17.out _ hw1.out
    go_region
    go_wp2
    exact op_end rfl rfl rfl rfl (show OpAt (w.alloc zOb25).drew w.heap.size zeO from ⟨hr.out.row⟩) ⟨hfin.out, hw1.out.drew⟩
  · go_enter Tryz.func17, Tryz.ntmps17
    go_wp2_with fail
    refine hK.out.mono ?_
    rintro e w2 ⟨rfl, rfl⟩
    go_wp2_with fail
    have k17 := c17.out _ hw1.out
    go_region
    go_wp2
    exact op_end rfl rfl rfl rfl (show OpAt (w.alloc zOb25).drew w.heap.size zeO from ⟨hr.out.row⟩) ⟨hfin.out, hw1.out.drew⟩
set_option maxRecDepth 100000 in
set_option maxHeartbeats 3200000 in
theorem parse_len (A : Nat → Addr) (v : Value) (ws : List (List UInt8)) (w : World) (hE : OpEnv A w) (hW : Wds w v ws) (hs : 2 ≤ ws.length) (hk : paK ws ≠ 0) (hn : ws.length ≠ 2 + (useL (paK ws)).length) :
    Calls Tryz.prog 17 #[v] w (PaAt25 A ws w) := by
  obtain ⟨a, c, rfl⟩ := row_slice hW
  obtain ⟨b, o, rfl⟩ := wds_some hW (by omega)
  obtain ⟨_, hnc, _, _⟩ := row_cap hW
  have hl : ¬ (ws.length : Int) < 2 := by omega
  have hl1 : (1 : Int) < (ws.length : Int) := by omega
  have hw1 := hidden (show Below w.heap.size w (w.alloc zOb25) from (Below.refl _ _).alloc (Nat.le_refl _) _)
  have hr := hidden (show OpAt (w.alloc zOb25) w.heap.size zeO from ⟨heap_alloc_new w zOb25⟩)
  have c17 := hidden (fun W (hb : Below w.heap.size w W) => show W.cell? ⟨5, 0, none⟩ = some (errAt (A 17)) from (hE.sents.on [17] (by decide)).below hb (Nat.le_refl _) 17 (by simp))
  have hgl := hidden (Nat.ne_of_lt (World.block_lt_of_cell? w _ (c17.out w (Below.refl _ _))))
  have hlow := hidden (show w.heap.size ≤ (w.alloc zOb25).heap.size from hw1.out.size)
  have k1 := wds_cell (hW.below wdF_len hw1.out (Nat.le_refl _)) 1 (by omega)
  have hK := hidden (kindOf_any ⟨(ws.getD 1 []).toArray⟩ (w.alloc zOb25) (hE.rows.below hw1.out (Nat.le_refl _)))
  have hK16 : paK ws ≤ 16 := kd_le (ws.getD 1 [])
  have hP := hidden (places_any25 (paK ws) (w.alloc zOb25) (hE.rows.below hw1.out (Nat.le_refl _)) hK16)
  have e0 : kdW ((⟨(ws.getD 1 []).toArray⟩ : ByteArray).data.toList) = paK ws := rfl
  rw [e0, decide_eq_true hk] at hK
  have hu := (use_len (k := paK ws) hK16).2 (Nat.pos_of_ne_zero hk)
  have hpl := pl25_len (paK ws)
  have hfin := hidden (pa_ret (A := A) (a := A 17) (pa_shape (pa_len hn)) (by decide) rfl)
  generalize paK ws = K at *
  generalize ws.getD 1 [] = w1 at *
  clear hE hW hs e0 hk
  by_cases hc : c = 2
  · subst hc
    have hn2 : ws.length = 2 := by omega
    have hne : ((0 : Int) != ((plL25 K).length : Int)) = true := by rw [bne_iff_ne]; omega
    generalize (plL25 K).length = nl at *
    rw [hn2] at hl hl1 ⊢
    clear hn hu hpl hnc hK16
    go_enter Tryz.func17, Tryz.ntmps17
    go_wp2_with fail
    refine hK.out.mono ?_
    rintro e w2 ⟨rfl, rfl⟩
    go_wp2_with fail
    refine hP.out.mono ?_
    rintro e w3 ⟨pv, rfl, hpv, hb3⟩
    obtain ⟨ap, np, rfl⟩ := own_slice18 hpv
    have hlw := hidden (hw1.out.trans (hb3.mono hlow.out))
    replace hr := hidden (hr.out.below hb3)
    have k17 := c17.out _ hlw.out
    clear hpv hb3 hP hK k1 c17
    obtain ⟨d0, d1, d2, d3, d4, d5, d6, d7⟩ := hr.out.cells
    simp only [zeO] at d0 d1 d2 d3 d4 d5 d6 d7
    have f0 := hr.out.frozen 0
    have f1 := hr.out.frozen 1
    have f2 := hr.out.frozen 2
    have f3 := hr.out.frozen 3
    have f4 := hr.out.frozen 4
    have f5 := hr.out.frozen 5
    have f6 := hr.out.frozen 6
    have f7 := hr.out.frozen 7
    have k17b := fun u j => cell_aside (j := j) (u := u) k17 (hgl.out)
    go_wp2_with fail
    go_region
    go_wp2
    exact op_end rfl rfl rfl rfl (hr.out.put zeO).drew ⟨hfin.out, (below_putO hlw.out (Nat.le_refl _) _ _ _ _ _ _ _ _).drew⟩
  · have hne : ((ws.length : Int) - 2 != ((plL25 K).length : Int)) = true := by rw [bne_iff_ne]; omega
    generalize (plL25 K).length = nl at *
    clear hn hu hpl hK16
    go_enter Tryz.func17, Tryz.ntmps17
    go_wp2_with fail
    refine hK.out.mono ?_
    rintro e w2 ⟨rfl, rfl⟩
    go_wp2_with fail
    refine hP.out.mono ?_
    rintro e w3 ⟨pv, rfl, hpv, hb3⟩
    obtain ⟨ap, np, rfl⟩ := own_slice18 hpv
    have hlw := hidden (hw1.out.trans (hb3.mono hlow.out))
    replace hr := hidden (hr.out.below hb3)
    have k17 := c17.out _ hlw.out
    clear hpv hb3 hP hK k1 c17
    obtain ⟨d0, d1, d2, d3, d4, d5, d6, d7⟩ := hr.out.cells
    simp only [zeO] at d0 d1 d2 d3 d4 d5 d6 d7
    have f0 := hr.out.frozen 0
    have f1 := hr.out.frozen 1
    have f2 := hr.out.frozen 2
    have f3 := hr.out.frozen 3
    have f4 := hr.out.frozen 4
    have f5 := hr.out.frozen 5
    have f6 := hr.out.frozen 6
    have f7 := hr.out.frozen 7
    have k17b := fun u j => cell_aside (j := j) (u := u) k17 (hgl.out)
    go_wp2_with fail
    go_region
    go_wp2
    exact op_end rfl rfl rfl rfl (hr.out.put zeO).drew ⟨hfin.out, (below_putO hlw.out (Nat.le_refl _) _ _ _ _ _ _ _ _).drew⟩
set_option maxRecDepth 100000 in
set_option maxHeartbeats 3200000 in
theorem parse_id (A : Nat → Addr) (v : Value) (ws : List (List UInt8)) (w : World) (hE : OpEnv A w) (hY : SynOn w) (hW : Wds w v ws) (hs : 2 ≤ ws.length) (hk : paK ws ≠ 0) (hn : ws.length = 2 + (useL (paK ws)).length) (hI : nuO (ws.getD 0 []) = none) :
    Calls Tryz.prog 17 #[v] w (PaAt25 A ws w) := by
  obtain ⟨a, c, rfl⟩ := row_slice hW
  obtain ⟨b, o, rfl⟩ := wds_some hW (by omega)
  obtain ⟨_, hnc, _, _⟩ := row_cap hW
  have hl : ¬ (ws.length : Int) < 2 := by omega
  have hl1 : (1 : Int) < (ws.length : Int) := by omega
  have hw1 := hidden (show Below w.heap.size w (w.alloc zOb25) from (Below.refl _ _).alloc (Nat.le_refl _) _)
  have hr := hidden (show OpAt (w.alloc zOb25) w.heap.size zeO from ⟨heap_alloc_new w zOb25⟩)
  have c17 := hidden (fun W (hb : Below w.heap.size w W) => show W.cell? ⟨6, 0, none⟩ = some (errAt (A 18)) from (hE.sents.on [18] (by decide)).below hb (Nat.le_refl _) 18 (by simp))
  have hgl := hidden (Nat.ne_of_lt (World.block_lt_of_cell? w _ (c17.out w (Below.refl _ _))))
  have hlow := hidden (show w.heap.size ≤ (w.alloc zOb25).heap.size from hw1.out.size)
  have k1 := wds_cell (hW.below wdF_len hw1.out (Nat.le_refl _)) 1 (by omega)
  have hK := hidden (kindOf_any ⟨(ws.getD 1 []).toArray⟩ (w.alloc zOb25) (hE.rows.below hw1.out (Nat.le_refl _)))
  have hK16 : paK ws ≤ 16 := kd_le (ws.getD 1 [])
  have hP := hidden (places_any25 (paK ws) (w.alloc zOb25) (hE.rows.below hw1.out (Nat.le_refl _)) hK16)
  have e0 : kdW ((⟨(ws.getD 1 []).toArray⟩ : ByteArray).data.toList) = paK ws := rfl
  rw [e0, decide_eq_true hk] at hK
  have hu := (use_len (k := paK ws) hK16).2 (Nat.pos_of_ne_zero hk)
  have hpl := pl25_len (paK ws)
  have hc : ¬ c = 2 := by omega
  have hfin := hidden (pa_ret (A := A) (a := A 18) (pa_nums (pa_ok hs hk hn) (pa_first hI)) (by decide) rfl)
  have hN := hidden (fun W (hb : Below w.heap.size w W) => number_any25 A ⟨(ws.getD 0 []).toArray⟩ W (hE.below hb (Nat.le_refl _)) (hY.below hb (Nat.le_refl _)))
  have e1 : nuO ((⟨(ws.getD 0 []).toArray⟩ : ByteArray).data.toList) = none := hI
  rw [e1] at hN
  have k0 := hidden (fun W (hb : Below w.heap.size w W) => wds_cell (hW.below wdF_len hb (Nat.le_refl _)) 0 (by omega))
  generalize paK ws = K at *
  generalize ws.getD 1 [] = w1 at *
  generalize ws.getD 0 [] = w0 at *
  have hne : ((ws.length : Int) - 2 != ((plL25 K).length : Int)) = false := by rw [bne_eq_false_iff_eq]; omega
  have hl0 : (0 : Int) < (ws.length : Int) := by omega
  generalize (plL25 K).length = nl at *
  clear hE hW hs e0 hk hY hn hu hpl hK16 hI e1
  go_enter Tryz.func17, Tryz.ntmps17
  go_wp2_with fail
  refine hK.out.mono ?_
  rintro e w2 ⟨rfl, rfl⟩
  go_wp2_with fail
  refine hP.out.mono ?_
  rintro e w3 ⟨pv, rfl, hpv, hb3⟩
  obtain ⟨ap, np, rfl⟩ := own_slice18 hpv
  have hlw := hidden (hw1.out.trans (hb3.mono hlow.out))
  replace hr := hidden (hr.out.below hb3)
  have k00 := k0.out _ hlw.out
  rw [Nat.add_zero] at k00
  have hN3 := hidden (hN.out _ hlw.out)
  clear hpv hb3 hP hK k1 hN k0
  go_wp2_with fail
  refine hN3.out.mono ?_
  rintro e w4 ⟨rfl, hb4⟩
  replace hr := hidden (hr.out.below hb4)
  replace hlw := hidden (hlw.out.trans (hb4.mono hlw.out.size))
  have k17 := c17.out _ hlw.out
  clear hN3 hb4 k00 c17
  obtain ⟨d0, d1, d2, d3, d4, d5, d6, d7⟩ := hr.out.cells
  simp only [zeO] at d0 d1 d2 d3 d4 d5 d6 d7
  have f0 := hr.out.frozen 0
  have f1 := hr.out.frozen 1
  have f2 := hr.out.frozen 2
  have f3 := hr.out.frozen 3
  have f4 := hr.out.frozen 4
  have f5 := hr.out.frozen 5
  have f6 := hr.out.frozen 6
  have f7 := hr.out.frozen 7
  have k17b := fun u j => cell_aside (j := j) (u := u) k17 (hgl.out)
  go_wp2_with fail
  go_region
  go_wp2
  exact op_end rfl rfl rfl rfl (hr.out.put zeO).drew ⟨hfin.out, (below_putO hlw.out (Nat.le_refl _) _ _ _ _ _ _ _ _).drew⟩
end Go.Proofs.YtongpgnnhpbcpaaGreatDoor
