/-
  The document's own operations (pledgeref26): Parse.
-/
import Derived.Test.YtongpgnnhpbcpaaGreatDoorOpRef5
import Derived.Test.YtongpgnnhpbcpaaGreatDoorOpRef3
import Derived.Test.YtongpgnnhpbcpaaGreatDoorOp7
import Derived.Deep.CutBlock
namespace Go.Proofs.YtongpgnnhpbcpaaGreatDoor
open Go.RowKit
set_option linter.unusedVariables false

def PrAt25 (ws : List (List UInt8)) (w : World) (e : Ending) (w' : World) : Prop :=
  e = .returned (.tuple #[opV (paR ws), .int .i64 (paC ws)]) ∧ Below w.heap.size w w'
theorem pr_ret {ws : List (List UInt8)} {c : Int} (h : paC ws = c) (h0 : c ≠ 0) : Ending.returned (.tuple #[opV zeO, .int .i64 c]) = .returned (.tuple #[opV (paR ws), .int .i64 (paC ws)]) := by
  rw [pa_bad (by rw [h]; exact h0), h]
theorem usV_all {K : Nat} (h : K ≤ 16) : usV (K : Int) = useS K := by
  by_cases h0 : K = 0
  · subst h0; rfl
  · exact usV_in (by omega) h
theorem OpAt.kdw {w : World} {g : Nat} {o : Opv} (h : OpAt w g o) (x : Int) : OpAt (w.setCell ⟨g, 1, none⟩ (.int .i64 x)) g ⟨o.id, x, o.a, o.b, o.c, o.d, o.n, o.m⟩ := ⟨by rw [heap_setCell_row h.row]; rfl⟩
theorem OpAt.idw {w : World} {g : Nat} {o : Opv} (h : OpAt w g o) (x : Int) : OpAt (w.setCell ⟨g, 0, none⟩ (.int .i64 x)) g ⟨x, o.kd, o.a, o.b, o.c, o.d, o.n, o.m⟩ := ⟨by rw [heap_setCell_row h.row]; rfl⟩
theorem OpAt.fld {w : World} {g P : Nat} {id kd x : Int} {f f' : Nat → Int} (h : OpAt w g (mkO id kd f)) (hP : P < 6) (hf : ∀ p, f' p = if p = P then x else f p) : OpAt (w.setCell ⟨g, P + 2, none⟩ (.int .i64 x)) g (mkO id kd f') := by
  refine ⟨?_⟩
  rw [heap_setCell_row h.row]
  unfold mkO
  rw [hf 0, hf 1, hf 2, hf 3, hf 4, hf 5]
  match P, hP with
  | 0, _ => rfl
  | 1, _ => rfl
  | 2, _ => rfl
  | 3, _ => rfl
  | 4, _ => rfl
  | 5, _ => rfl
theorem OpAt.aside {w : World} {g g2 j : Nat} {v : Value} {o : Opv} (h : OpAt w g o) (hne : g ≠ g2) : OpAt (w.setCell ⟨g2, j, none⟩ v) g o := ⟨(Below.heap_setCell _ _ _ _ (by simpa using hne)).trans h.row⟩
/-- the kind, as far as it has been looked for. -/
def kdB (l : List UInt8) (k : Nat) : Int := if kdW l < k then (kdW l : Int) else 0
theorem kdB_hit {l : List UInt8} {k : Nat} (h1 : 1 ≤ k) (h2 : k ≤ 16) (h : nmS k = l) : kdB l (k + 1) = (k : Int) := by
  have := kd_some h1 h2 h
  unfold kdB
  rw [this, if_pos (by omega)]
theorem kdB_not {l : List UInt8} {k : Nat} (h1 : 1 ≤ k) (h2 : k ≤ 16) (h : nmS k ≠ l) : kdB l (k + 1) = kdB l k := by
  have hne : kdW l ≠ k := fun e => by
    rcases kd_ways l with ⟨q, _⟩ | ⟨_, _, q⟩
    · omega
    · rw [e] at q; exact h q
  unfold kdB
  by_cases hk : kdW l < k
  · rw [if_pos hk, if_pos (by omega)]
  · rw [if_neg hk, if_neg (by omega)]
theorem kdB_end (l : List UInt8) : kdB l 17 = (kdW l : Int) := if_pos (by have := kd_le l; omega)
theorem kdB_start (l : List UInt8) : kdB l 1 = 0 := by
  unfold kdB
  split
  · have : kdW l = 0 := by omega
    rw [this]; rfl
  · rfl
def PrKind25 (l : List UInt8) (w : World) (i : Value) (wr : World) : Prop :=
  ∃ k : Nat, 1 ≤ k ∧ k ≤ 17 ∧ i = .int .i64 (k : Int) ∧ OpAt wr (w.heap.size + 1) ⟨0, kdB l k, 0, 0, 0, 0, 0, 0⟩ ∧ OpAt wr w.heap.size zeO ∧ Below w.heap.size w wr
def paPre (ws : List (List UInt8)) (k : Nat) : Bool := (nuO (ws.getD 0 [])).isSome && (List.range k).all fun j => (paN ws j).isSome
theorem paPre_next (ws : List (List UInt8)) (k : Nat) : paPre ws (k + 1) = (paPre ws k && (paN ws k).isSome) := by
  unfold paPre
  rw [List.range_succ, List.all_append]
  simp [Bool.and_assoc]
def PrLoop25 (ws : List (List UInt8)) (K : Nat) (w : World) (okv iv : Value) (wr : World) : Prop :=
  ∃ k : Nat, k ≤ (useL K).length ∧ iv = .int .i64 (k : Int) ∧ okv = .bool (paPre ws k) ∧ OpAt wr (w.heap.size + 1) (mkO (paI ws) (K : Int) (paS ws (useL K) k)) ∧ OpAt wr w.heap.size zeO ∧ Below w.heap.size w wr
set_option maxRecDepth 100000 in
set_option maxHeartbeats 3200000 in
theorem refParse_few (v : Value) (ws : List (List UInt8)) (w : World) (hW : Wds w v ws) (hs : ws.length < 2) :
    Calls Tryz.prog 18 #[v] w (PrAt25 ws w) := by
  obtain ⟨a, c, rfl⟩ := row_slice hW
  have hl : (ws.length : Int) < 2 := by omega
  have hw1 := hidden (show Below w.heap.size w (w.alloc zOb25) from (Below.refl _ _).alloc (Nat.le_refl _) _)
  have hr := hidden (show OpAt (w.alloc zOb25) w.heap.size zeO from ⟨heap_alloc_new w zOb25⟩)
  have hfin := hidden (pr_ret (pa_shape (pa_few hs)) (by decide))
  clear hW hs
  go_enter Tryz.func18, Tryz.ntmps18
  go_wp2
  exact op_end rfl rfl rfl rfl hr.out ⟨hfin.out, hw1.out⟩
/-- the result of nothing is stored, and an error's number. -/
theorem pr_end {a : Act} {w W : World} {fn : Func} {ws : List (List UInt8)} {c : Int} {u : Tmp} (h : fn.results = #[.cell 2 23, .tmp u]) (hd : a.defers = []) (hp : a.tmps.getD 2 undef = .pointer (some ⟨w.heap.size, 0, none⟩)) (hb : a.tmps.getD u undef = .int .i64 c)
    (hr : OpAt W w.heap.size zeO) (hlow : Below w.heap.size w W) (hc : paC ws = c) (h0 : c ≠ 0) : bodyPost Tryz.prog fn (PrAt25 ws w) .ret a ((((((((W.setCell ⟨w.heap.size, 0, none⟩ (.int .i64 0)).setCell ⟨w.heap.size, 1, none⟩ (.int .i64 0)).setCell ⟨w.heap.size, 2, none⟩ (.int .i64 0)).setCell ⟨w.heap.size, 3, none⟩ (.int .i64 0)).setCell ⟨w.heap.size, 4, none⟩ (.int .i64 0)).setCell ⟨w.heap.size, 5, none⟩ (.int .i64 0)).setCell ⟨w.heap.size, 6, none⟩ (.int .i64 0)).setCell ⟨w.heap.size, 7, none⟩ (.int .i64 0)) :=
  op_end h hd hp hb (hr.put zeO) ⟨pr_ret hc h0, below_putO hlow (Nat.le_refl _) _ _ _ _ _ _ _ _⟩
theorem OpAt.z_cells {w : World} {g : Nat} (h : OpAt w g zeO) : (w.cell? ⟨g, 0, none⟩ = some (.int .i64 0) ∧ w.cell? ⟨g, 1, none⟩ = some (.int .i64 0) ∧ w.cell? ⟨g, 2, none⟩ = some (.int .i64 0) ∧ w.cell? ⟨g, 3, none⟩ = some (.int .i64 0) ∧ w.cell? ⟨g, 4, none⟩ = some (.int .i64 0) ∧ w.cell? ⟨g, 5, none⟩ = some (.int .i64 0) ∧ w.cell? ⟨g, 6, none⟩ = some (.int .i64 0) ∧ w.cell? ⟨g, 7, none⟩ = some (.int .i64 0)) ∧ (w.frozen? ⟨g, 0, none⟩ = false ∧ w.frozen? ⟨g, 1, none⟩ = false ∧ w.frozen? ⟨g, 2, none⟩ = false ∧ w.frozen? ⟨g, 3, none⟩ = false ∧ w.frozen? ⟨g, 4, none⟩ = false ∧ w.frozen? ⟨g, 5, none⟩ = false ∧ w.frozen? ⟨g, 6, none⟩ = false ∧ w.frozen? ⟨g, 7, none⟩ = false) := ⟨h.cells, h.frozen 0, h.frozen 1, h.frozen 2, h.frozen 3, h.frozen 4, h.frozen 5, h.frozen 6, h.frozen 7⟩
set_option maxRecDepth 100000 in
set_option maxHeartbeats 6400000 in
theorem refParse_rest (v : Value) (ws : List (List UInt8)) (w : World) (hW : Wds w v ws) (hs : 2 ≤ ws.length) :
    Calls Tryz.prog 18 #[v] w (PrAt25 ws w) := by
  obtain ⟨a, c, rfl⟩ := row_slice hW
  obtain ⟨b, o, rfl⟩ := wds_some hW (by omega)
  have hl : ¬ (ws.length : Int) < 2 := by omega
  have hl1 : (1 : Int) < (ws.length : Int) := by omega
  have hl0 : (0 : Int) < (ws.length : Int) := by omega
  have hlow := hidden (show Below w.heap.size w ((w.alloc zOb25).alloc zOb25) from ((Below.refl _ _).alloc (Nat.le_refl _) _).alloc (by simp) _)
  have hr := hidden (show OpAt ((w.alloc zOb25).alloc zOb25) w.heap.size zeO from ⟨by rw [heap_alloc_old _ _ (by simp)]; exact heap_alloc_new w _⟩)
  have ho := hidden (show OpAt ((w.alloc zOb25).alloc zOb25) (w.heap.size + 1) ⟨0, kdB (ws.getD 1 []) 1, 0, 0, 0, 0, 0, 0⟩ from ⟨by rw [kdB_start]; have := heap_alloc_new (w.alloc zOb25) zOb25; rwa [World.size_alloc] at this⟩)
  have hwd := hidden (fun W (hb : Below w.heap.size w W) k hk => wds_cell (hW.below wdF_len hb (Nat.le_refl _)) k hk)
  have hK16 := hidden (show paK ws ≤ 16 from kd_le (ws.getD 1 []))
  have hKK := hidden (show paK ws = kdW (ws.getD 1 []) from rfl)
  have hne : w.heap.size ≠ w.heap.size + 1 := by omega
  have hne := hidden hne
  have hsz := hidden hs
  clear hW hs
  go_enter Tryz.func18, Tryz.ntmps18
  go_upto_region 4 with (fail)
  generalize (w.alloc zOb25).alloc zOb25 = w1 at *
  generalize hL1 : ws.getD 1 [] = l at *
  replace hL1 := hidden hL1
  go_wp2_with fail
  go_loopw [5] (fun i wr => PrKind25 l w i wr) (fun i _ => 17 - (intOf i).toNat)
  case atStart => exact ⟨1, by decide, by decide, rfl, ho.out, hr.out, hlow.out⟩
  case round =>
    clear ho hr hlow
    obtain ⟨k, hk1, hk17, rfl, ho, hr, hlow⟩ := hrel
    replace ho := hidden ho
    replace hr := hidden hr
    replace hlow := hidden hlow
    by_cases hlt : k < 17
    · have hkI : (k : Int) ≤ 16 := by omega
      have c1 := hwd.out wr hlow.out 1 (by have := hsz.out; omega)
      rw [hL1.out] at c1
      have hN := hidden (fun W => refName_any (k : Int) W)
      rw [nmV_in (kd := (k : Int)) rfl hk1 (by omega)] at hN
      obtain ⟨y, hy⟩ : ∃ y : Bool, (nmS k == l) = y := ⟨_, rfl⟩
      have hhit := hidden (fun h => @kdB_hit l k hk1 (by omega) h)
      have hnot := hidden (fun h => @kdB_not l k hk1 (by omega) h)
      generalize nmS k = nk at *
      go_upto_region 7 with (fail)
      go_cut [27] (fun v wx => v = .bool y ∧ Below wr.heap.size wr wx)
      case first =>
        go_region_with (go_at_call 10; refine (hN.out _).mono ?_; rintro e' w3 ⟨rfl, hb3⟩; have hbq := hidden ((Below.refl wr.heap.size wr).drew.trans hb3); have c1b := (World.cell?_of_block (w := wr) (hbq.out.block b (World.block_lt_of_cell? wr _ c1))).trans c1)
        all_goals (go_wp2_with fail; go_meet; exact ⟨by first | rfl | rw [← hy], hbq.out⟩)
      case rest =>
        obtain ⟨rfl, hbx⟩ := hcut
        replace ho := hidden (ho.out.below hbx)
        replace hr := hidden (hr.out.below hbx)
        replace hlow := hidden (hlow.out.trans (hbx.mono hlow.out.size))
        clear hbx c1 hN
        cases y with
        | true =>
          have hh := hidden (hhit.out (by rwa [beq_iff_eq] at hy))
          obtain ⟨q0, q1, q2, q3, q4, q5, q6, q7⟩ := ho.out.cells
          have f1 := ho.out.frozen 1
          have ho2 := hidden (ho.out.kdw (k : Int))
          have hr2 := hidden (hr.out.aside (j := 1) (v := .int .i64 (k : Int)) hne.out)
          have hlow2 := hidden (hlow.out.setCell (p := ⟨w.heap.size + 1, 1, none⟩) (Nat.le_succ _) (.int .i64 (k : Int)))
          clear hhit hnot
          go_wp2
          go_roundw
          case rel => exact ⟨k + 1, by omega, by omega, by go_num, by rw [hh.out]; exact ho2.out, hr2.out, hlow2.out⟩
          case measure => simp [intOf]; omega
        | false =>
          have hh := hidden (hnot.out (by rwa [beq_eq_false_iff_ne] at hy))
          clear hhit hnot
          go_wp2
          go_roundw
          case rel => exact ⟨k + 1, by omega, by omega, by go_num, by rw [hh.out]; exact ho.out, hr.out, hlow.out⟩
          case measure => simp [intOf]; omega
    · obtain rfl : k = 17 := by omega
      rw [kdB_end, ← hKK.out] at ho
      clear hKK hL1
      generalize hKe : paK ws = K at *
      replace hKe := hidden hKe
      have hU := hidden (refUses_any (K : Int) wr)
      rw [usV_all hK16.out] at hU
      have hUl := hidden (show (useS K).length = (useL K).length by simp [useS])
      have hUs : (⟨(useS K).toArray⟩ : ByteArray).size = (useL K).length := by rw [← hUl.out]; simp [ByteArray.size]
      have hUe := hidden (show ∀ k (hk : k < (useL K).length) h, (useS K)[k]'h = letL.getD ((useL K).getD k 0) 0 from fun k hk h => by simp [useS, List.getD_eq_getElem?_getD, List.getElem?_eq_getElem hk])
      have hul5 := hidden (use_len hK16.out).1
      have hul6 : ((useL K).length : Int) ≤ 5 := by have := hul5.out; omega
      generalize useS K = U at *
      have ho0 := ho
      obtain ⟨q0, q1, q2, q3, q4, q5, q6, q7⟩ := ho.out.cells
      obtain ⟨⟨z0, z1, z2, z3, z4, z5, z6, z7⟩, g0, g1, g2, g3, g4, g5, g6, g7⟩ := hr.out.z_cells
      by_cases hK0 : K = 0
      · subst hK0
        have hC := hidden (pa_shape (pa_kind hKe.out))
        have hk0 : (((0 : Nat) : Int) == 0) = true := rfl
        go_wp2_with fail
        refine hU.out.mono ?_
        rintro e w' ⟨rfl, rfl⟩
        go_wp2
        exact pr_end rfl rfl rfl rfl hr.out hlow.out hC.out (by decide)
      · have hk0 : ((K : Int) == 0) = false := by rw [beq_eq_false_iff_ne]; omega
        by_cases hn : ws.length = 2 + (useL K).length
        · have hne2 : ((ws.length : Int) != 2 + ((useL K).length : Int)) = false := by rw [bne_eq_false_iff_eq]; omega
          have hnN := hidden hn
          have hC := hidden (pa_ok (W := ws) hsz.out (by rw [hKe.out]; exact hK0) (by rw [hKe.out]; exact hn))
          have c0 := hwd.out wr hlow.out 0 (by have := hsz.out; omega)
          rw [Nat.add_zero] at c0
          have hN0 := hidden (refNumber_any (ws.getD 0 []) wr)
          have hI0 := hidden (show (nuO (ws.getD 0 [])).getD 0 = paI ws from rfl)
          have hI1 := hidden (show (nuO (ws.getD 0 [])).isSome = paPre ws 0 by simp [paPre])
          unfold nuT at hN0
          rw [hI0.out, hI1.out] at hN0
          generalize ws.getD 0 [] = l0 at *
          have f0 := ho.out.frozen 0
          have ho3 := hidden (ho.out.idw (paI ws))
          have hr3 := hidden (hr.out.aside (j := 0) (v := .int .i64 (paI ws)) hne.out)
          have hlow3 := hidden (hlow.out.setCell (p := ⟨w.heap.size + 1, 0, none⟩) (Nat.le_succ _) (.int .i64 (paI ws)))
          have hst := hidden (show PrLoop25 ws K w (.bool (paPre ws 0)) (.int .i64 0) (wr.setCell ⟨w.heap.size + 1, 0, none⟩ (.int .i64 (paI ws))) from ⟨0, Nat.zero_le _, rfl, rfl, ho3.out, hr3.out, hlow3.out⟩)
          have hPO := hidden (show paO ws = mkO (paI ws) (paK ws : Int) (paS ws (useL (paK ws)) (useL (paK ws)).length) from rfl)
          have hPA := hidden (show paAll ws = paPre ws (useL (paK ws)).length from rfl)
          rw [hKe.out] at hPO hPA
          clear hK0 hn z0 z1 z2 z3 z4 z5 z6 z7 g0 g1 g2 g3 g4 g5 g6 g7 ho3 hr3 hlow3 hI0 hI1
          go_wp2_with fail
          refine hU.out.mono ?_
          rintro e w' ⟨rfl, rfl⟩
          go_wp2_with fail
          refine hN0.out.mono ?_
          rintro e w9 ⟨rfl, rfl⟩
          clear hU hN0
          go_upto_region 14 with (fail)
          clear q0 q1 q2 q3 q4 q5 q6 q7 f0 c0 hne2 hk0 hr ho ho0 hlow
          generalize w9.setCell ⟨w.heap.size + 1, 0, none⟩ (.int .i64 (paI ws)) = w3 at *
          have hLt := hidden (fun k hk => (pl25_at (K := K) (k := k) hk).2)
          have hpSn := hidden (fun k p => paS_next ws (useL K) k p)
          have hpPn := hidden (fun k => paPre_next ws k)
          generalize hnl : (useL K).length = n at *
          replace hnl := hidden hnl
          go_wp2_with fail
          go_loopw [8, 9] (fun okv iv wr => PrLoop25 ws K w okv iv wr) (fun _ iv _ => n - (intOf iv).toNat)
          case atStart => exact hst.out
          case round =>
            clear hst
            obtain ⟨k, hk, rfl, rfl, ho, hr, hlow⟩ := hrel
            rw [hnl.out] at hk
            replace ho := hidden ho
            replace hr := hidden hr
            replace hlow := hidden hlow
            by_cases hlt : k < n
            · have hkI : (k : Int) < (n : Int) := by omega
              have hkU : k < U.length := by rw [hUl.out]; exact hlt
              have hk5 : k ≤ 5 := by have := hul5.out; omega
              have hlet := hidden (hUe.out k hlt hkU)
              have hP6 : (useL K).getD k 0 < 6 := hLt.out k hlt
              have hf := hidden (hpSn.out k)
              have hpp := hidden (hpPn.out k)
              have cw := hwd.out wr hlow.out (2 + k) (by have := hnN.out; omega)
              have cw2 := cw
              rw [← Nat.add_assoc] at cw2
              have hwl : 2 + (k : Int) < (ws.length : Int) := by have := hnN.out; omega
              have hNk := hidden (refNumber_any (ws.getD (2 + k) []) wr)
              have e2 : nuT (ws.getD (2 + k) []) = .tuple #[.int .i64 ((paN ws k).getD 0), .bool (paN ws k).isSome] := rfl
              rw [e2] at hNk
              obtain ⟨q0, q1, q2, q3, q4, q5, q6, q7⟩ := ho.out.cells
              simp only [mkO] at q0 q1 q2 q3 q4 q5 q6 q7
              generalize ws.getD (2 + k) [] = wk at *
              generalize (paN ws k).getD 0 = x at *
              generalize (paN ws k).isSome = b2 at *
              generalize hb1 : paPre ws k = b1 at *
              replace hb1 := hidden hb1
              generalize (useL K).getD k 0 = P at *
              have hP : P = 0 ∨ P = 1 ∨ P = 2 ∨ P = 3 ∨ P = 4 ∨ P = 5 := by omega
              rcases hP with rfl | rfl | rfl | rfl | rfl | rfl
              · cases b1
                all_goals
                  have hcU : ((((⟨U.toArray⟩ : ByteArray)[k]'(by rw [hUs]; exact hlt)).toNat : Int)) = 65 := congrArg (fun b : UInt8 => (b.toNat : Int)) hlet.out
                  have ho2 := hidden (ho.out.fld (P := 0) (x := x) (by decide) hf.out)
                  have hr2 := hidden (hr.out.aside (j := 2) (v := .int .i64 x) hne.out)
                  have hlow2 := hidden (hlow.out.setCell (p := ⟨w.heap.size + 1, 2, none⟩) (Nat.le_succ _) (.int .i64 x))
                  have f2 := ho.out.frozen 2
                  clear hf hlet ho hr hlow
                  go_wp2_with fail
                  refine hNk.out.mono ?_
                  rintro e w' ⟨rfl, rfl⟩
                  go_wp2
                  go_roundw
                  case rel => exact ⟨k + 1, by rw [hnl.out]; omega, by go_num, by rw [hpp.out]; rfl, ho2.out, hr2.out, hlow2.out⟩
                  case measure => simp [intOf]; omega
              · cases b1
                all_goals
                  have hcU : ((((⟨U.toArray⟩ : ByteArray)[k]'(by rw [hUs]; exact hlt)).toNat : Int)) = 66 := congrArg (fun b : UInt8 => (b.toNat : Int)) hlet.out
                  have ho2 := hidden (ho.out.fld (P := 1) (x := x) (by decide) hf.out)
                  have hr2 := hidden (hr.out.aside (j := 3) (v := .int .i64 x) hne.out)
                  have hlow2 := hidden (hlow.out.setCell (p := ⟨w.heap.size + 1, 3, none⟩) (Nat.le_succ _) (.int .i64 x))
                  have f2 := ho.out.frozen 3
                  clear hf hlet ho hr hlow
                  go_wp2_with fail
                  refine hNk.out.mono ?_
                  rintro e w' ⟨rfl, rfl⟩
                  go_wp2
                  go_roundw
                  case rel => exact ⟨k + 1, by rw [hnl.out]; omega, by go_num, by rw [hpp.out]; rfl, ho2.out, hr2.out, hlow2.out⟩
                  case measure => simp [intOf]; omega
              · cases b1
                all_goals
                  have hcU : ((((⟨U.toArray⟩ : ByteArray)[k]'(by rw [hUs]; exact hlt)).toNat : Int)) = 67 := congrArg (fun b : UInt8 => (b.toNat : Int)) hlet.out
                  have ho2 := hidden (ho.out.fld (P := 2) (x := x) (by decide) hf.out)
                  have hr2 := hidden (hr.out.aside (j := 4) (v := .int .i64 x) hne.out)
                  have hlow2 := hidden (hlow.out.setCell (p := ⟨w.heap.size + 1, 4, none⟩) (Nat.le_succ _) (.int .i64 x))
                  have f2 := ho.out.frozen 4
                  clear hf hlet ho hr hlow
                  go_wp2_with fail
                  refine hNk.out.mono ?_
                  rintro e w' ⟨rfl, rfl⟩
                  go_wp2
                  go_roundw
                  case rel => exact ⟨k + 1, by rw [hnl.out]; omega, by go_num, by rw [hpp.out]; rfl, ho2.out, hr2.out, hlow2.out⟩
                  case measure => simp [intOf]; omega
              · cases b1
                all_goals
                  have hcU : ((((⟨U.toArray⟩ : ByteArray)[k]'(by rw [hUs]; exact hlt)).toNat : Int)) = 68 := congrArg (fun b : UInt8 => (b.toNat : Int)) hlet.out
                  have ho2 := hidden (ho.out.fld (P := 3) (x := x) (by decide) hf.out)
                  have hr2 := hidden (hr.out.aside (j := 5) (v := .int .i64 x) hne.out)
                  have hlow2 := hidden (hlow.out.setCell (p := ⟨w.heap.size + 1, 5, none⟩) (Nat.le_succ _) (.int .i64 x))
                  have f2 := ho.out.frozen 5
                  clear hf hlet ho hr hlow
                  go_wp2_with fail
                  refine hNk.out.mono ?_
                  rintro e w' ⟨rfl, rfl⟩
                  go_wp2
                  go_roundw
                  case rel => exact ⟨k + 1, by rw [hnl.out]; omega, by go_num, by rw [hpp.out]; rfl, ho2.out, hr2.out, hlow2.out⟩
                  case measure => simp [intOf]; omega
              · cases b1
                all_goals
                  have hcU : ((((⟨U.toArray⟩ : ByteArray)[k]'(by rw [hUs]; exact hlt)).toNat : Int)) = 78 := congrArg (fun b : UInt8 => (b.toNat : Int)) hlet.out
                  have ho2 := hidden (ho.out.fld (P := 4) (x := x) (by decide) hf.out)
                  have hr2 := hidden (hr.out.aside (j := 6) (v := .int .i64 x) hne.out)
                  have hlow2 := hidden (hlow.out.setCell (p := ⟨w.heap.size + 1, 6, none⟩) (Nat.le_succ _) (.int .i64 x))
                  have f2 := ho.out.frozen 6
                  clear hf hlet ho hr hlow
                  go_wp2_with fail
                  refine hNk.out.mono ?_
                  rintro e w' ⟨rfl, rfl⟩
                  go_wp2
                  go_roundw
                  case rel => exact ⟨k + 1, by rw [hnl.out]; omega, by go_num, by rw [hpp.out]; rfl, ho2.out, hr2.out, hlow2.out⟩
                  case measure => simp [intOf]; omega
              · cases b1
                all_goals
                  have hcU : ((((⟨U.toArray⟩ : ByteArray)[k]'(by rw [hUs]; exact hlt)).toNat : Int)) = 77 := congrArg (fun b : UInt8 => (b.toNat : Int)) hlet.out
                  have ho2 := hidden (ho.out.fld (P := 5) (x := x) (by decide) hf.out)
                  have hr2 := hidden (hr.out.aside (j := 7) (v := .int .i64 x) hne.out)
                  have hlow2 := hidden (hlow.out.setCell (p := ⟨w.heap.size + 1, 7, none⟩) (Nat.le_succ _) (.int .i64 x))
                  have f2 := ho.out.frozen 7
                  clear hf hlet ho hr hlow
                  go_wp2_with fail
                  refine hNk.out.mono ?_
                  rintro e w' ⟨rfl, rfl⟩
                  go_wp2
                  go_roundw
                  case rel => exact ⟨k + 1, by rw [hnl.out]; omega, by go_num, by rw [hpp.out]; rfl, ho2.out, hr2.out, hlow2.out⟩
                  case measure => simp [intOf]; omega
            · obtain rfl : k = n := by omega
              have hkI : ¬ (k : Int) < (k : Int) := by omega
              have hPA2 := hidden (show paAll ws = paPre ws k from hPA.out)
              have hPO2 := hidden (show paO ws = mkO (paI ws) (K : Int) (paS ws (useL K) k) from hPO.out)
              have ho2 := ho.out
              rw [← hPO2.out] at ho2
              replace ho := hidden ho2
              obtain ⟨q0, q1, q2, q3, q4, q5, q6, q7⟩ := ho.out.cells
              obtain ⟨⟨z0, z1, z2, z3, z4, z5, z6, z7⟩, g0, g1, g2, g3, g4, g5, g6, g7⟩ := hr.out.z_cells
              have hV := hidden (fun W => refValid25 (paO ws) W)
              generalize hokb : paPre ws k = okb at *
              clear ho2 hPO hPA hPO2 hpSn hpPn hUe hLt hwd hnN hul5
              cases okb with
              | false =>
                have hfin := hidden (pa_nums hC.out hPA2.out)
                clear q0 q1 q2 q3 q4 q5 q6 q7 hV
                go_wp2
                exact pr_end rfl rfl rfl rfl hr.out hlow.out hfin.out (by decide)
              | true =>
                have hpe := hidden (pa_end hC.out hPA2.out)
                clear z0 z1 z2 z3 z4 z5 z6 z7 g0 g1 g2 g3 g4 g5 g6 g7
                generalize paO ws = O at *
                go_wp2_with fail
                refine (hV.out _).mono ?_
                rintro e w5 ⟨rfl, hb5⟩
                replace ho := hidden (ho.out.below hb5)
                replace hr := hidden (hr.out.below hb5)
                replace hlow := hidden (hlow.out.trans (hb5.mono hlow.out.size))
                clear q0 q1 q2 q3 q4 q5 q6 q7 hV hb5
                obtain ⟨⟨z0, z1, z2, z3, z4, z5, z6, z7⟩, g0, g1, g2, g3, g4, g5, g6, g7⟩ := hr.out.z_cells
                obtain ⟨q0, q1, q2, q3, q4, q5, q6, q7⟩ := ho.out.cells
                by_cases hg : opE O = 0
                · have hg2 : (opE O != 0) = false := by rw [bne_eq_false_iff_eq]; exact hg
                  have hfin := hidden (show Ending.returned (.tuple #[opV O, .int .i64 (opE O)]) = .returned (.tuple #[opV (paR ws), .int .i64 (paC ws)]) by rw [hpe.out.1, hpe.out.2]; unfold opR; rw [if_pos hg])
                  clear hg
                  generalize opE O = cq at *
                  go_wp2
                  exact op_end rfl rfl rfl rfl (hr.out.put O) ⟨hfin.out, below_putO hlow.out (Nat.le_refl _) _ _ _ _ _ _ _ _⟩
                · have hg2 : (opE O != 0) = true := by rw [bne_iff_ne]; exact hg
                  have hcc := hidden hpe.out.1
                  have hg3 := hidden hg
                  clear hg hpe
                  generalize opE O = cq at *
                  go_wp2
                  exact pr_end rfl rfl rfl rfl hr.out hlow.out hcc.out hg3.out
        · have hne2 : ((ws.length : Int) != 2 + ((useL K).length : Int)) = true := by rw [bne_iff_ne]; omega
          have hC := hidden (pa_shape (pa_len (W := ws) (by rw [hKe.out]; exact hn)))
          go_wp2_with fail
          refine hU.out.mono ?_
          rintro e w' ⟨rfl, rfl⟩
          go_wp2
          exact pr_end rfl rfl rfl rfl hr.out hlow.out hC.out (by decide)
theorem refParse_any25 (v : Value) (ws : List (List UInt8)) (w : World) (hW : Wds w v ws) :
    Calls Tryz.prog 18 #[v] w (PrAt25 ws w) := by
  by_cases hs : ws.length < 2
  · exact refParse_few v ws w hW hs
  · exact refParse_rest v ws w hW (by omega)
end Go.Proofs.YtongpgnnhpbcpaaGreatDoor
