/-
  Take.
-/
import Derived.Test.YteinajoiambigaaDoorHold1
namespace Go.Proofs.YteinajoiambigaaDoor
open Go.RowKit Go.Maps Go.MapKept
set_option linter.unusedVariables false

theorem spot_cells (w w' : World) (c d : Int) (h : Below (w.alloc (sptO (c, d))).heap.size (w.alloc (sptO (c, d))) w') : w'.cell? ⟨w.heap.size, 0, none⟩ = some (.int .i64 c) ∧ w'.cell? ⟨w.heap.size, 1, none⟩ = some (.int .i64 d) := by
  have h1 : w'.heap[w.heap.size]? = some (sptO (c, d)) := (h.block _ (by simp)).trans (heap_alloc_new w _)
  exact ⟨by rw [cell_of_row _ _ _ _ _ _ h1]; rfl, by rw [cell_of_row _ _ _ _ _ _ h1]; rfl⟩
/-- the map is there where something is. -/
theorem HoAt.some {w : World} {B g n : Nat} {T : HTab} (h : HoAt w B g n T) {s : SpotT} (hs : getQ T s ≠ 0) :
    ∃ b, w.heap[g]? = some (.cells #[.map (some b)] 27 (0, 0)) ∧ KeyTab Tryd.prog 31 2 .i64 sptV spIn w b n T ∧ B ≤ b := by
  obtain ⟨m, hg, hm, hB⟩ := h.ex
  cases m with
  | none =>
    obtain rfl : T = fun _ => none := hm
    exact absurd rfl hs
  | some b => exact ⟨b, hg, hm, hB b rfl⟩
theorem hoAt_of {w : World} {B g n b : Nat} {T : HTab} (hg : w.heap[g]? = some (.cells #[.map (some b)] 27 (0, 0))) (hK : KeyTab Tryd.prog 31 2 .i64 sptV spIn w b n T) (hB : B ≤ b) (hB2 : B ≤ g) (hT : HoT T) : HoAt w B g n T :=
  ⟨⟨some b, hg, hK, fun b' e => by cases e; exact hB⟩, hB2, hT⟩
/-- a quantity is laid into the map. -/
theorem hoAt_put {w : World} {B g n b : Nat} {T : HTab} (hg : w.heap[g]? = some (.cells #[.map (some b)] 27 (0, 0)))
    (hK : KeyTab Tryd.prog 31 2 .i64 sptV spIn w b n T) (hB : B ≤ b) (hB2 : B ≤ g) (hT : HoT T) (hn : n < 1000000) {c d x : Int} (hs : spOk (c, d)) (hx : qtOk x) :
    ∃ w', (Instr.mapUpdate 25 (.map (some b)) (.agg #[.int .i64 c, .int .i64 d]) (.int .i64 x)).run Tryd.prog w.drew = .ok () w' ∧ HoAt w' B g (n + 1) (updK T (c, d) x) ∧ Trd (· = b) w w' := by
  obtain ⟨w', hrun, hK', hgr⟩ := (KeyTab.block (w' := w.drew) hK rfl).put spot_enc Tryd.underlying25 Tryd.underlying2 (by unfold maxLen; omega) (c, d) hs.isIn x (WalkArith.wf_i64 (by unfold qtOk at hx; omega))
  have hne : g ≠ b := by
    rintro rfl
    obtain ⟨es, c, he⟩ := hK.isMap
    rw [hg] at he
    cases he
  have hgl := (Array.getElem?_eq_some_iff.1 hg).1
  exact ⟨w', hrun, hoAt_of ((hgr.block g hgl (fun e => hne (Option.some.inj e))).trans hg) hK' hB hB2 (hT.upd hs hx), (Trd.drew w).trans (Trd.grown hgr fun k e => (Option.some.inj e).symm)⟩
/-- a spot is taken out of the map. -/
theorem hoAt_drop {w : World} {B g n b : Nat} {T : HTab} (hg : w.heap[g]? = some (.cells #[.map (some b)] 27 (0, 0)))
    (hK : KeyTab Tryd.prog 31 2 .i64 sptV spIn w b n T) (hB : B ≤ b) (hB2 : B ≤ g) (hT : HoT T) {c d : Int} (hs : spOk (c, d)) (ty : TypeId) :
    ∃ w', (Builtin.delete_ #[25, 31] ty #[.map (some b), .agg #[.int .i64 c, .int .i64 d]]).run Tryd.prog w.drew = .ok (.tuple #[]) w' ∧ HoAt w' B g n (dropK T (c, d)) ∧ Trd (· = b) w w' := by
  obtain ⟨w', hrun, hK', hturn⟩ := (KeyTab.block (w' := w.drew) hK rfl).drop spot_enc Tryd.underlying25 (c, d) hs.isIn ty
  have hgr := hturn.grown
  have hne : g ≠ b := by
    rintro rfl
    obtain ⟨es, c, he⟩ := hK.isMap
    rw [hg] at he
    cases he
  have hgl := (Array.getElem?_eq_some_iff.1 hg).1
  exact ⟨w', hrun, hoAt_of ((hgr.block g hgl (fun e => hne (Option.some.inj e))).trans hg) hK' hB hB2 (hT.drop _), (Trd.drew w).trans (Trd.grown hgr fun k e => (Option.some.inj e).symm)⟩
def HoDone (A : Nat → Addr) (B g n : Nat) (c : Int) (T : HTab) (w : World) (e : Ending) (w' : World) : Prop :=
  e = .returned (errOf A c) ∧ HoAt w' B g (n + 1) T ∧ Trd (hoB w g) w w'
set_option maxRecDepth 100000 in
set_option maxHeartbeats 3200000 in
theorem hoTake_any (A : Nat → Addr) (w : World) (B g n : Nat) (T : HTab) (h : HoAt w B g n T) (hB : B ≤ w.heap.size) (hn : n < 1000000) (s : SpotT) (q : Int) (hE : ErrsOn [2, 12] w A) :
    Calls Tryd.prog 7 #[.pointer (some ⟨g, 0, none⟩), sptV s, .int .i64 q] w (HoDone A B g n (takHC T s q) (takHT T s q) w) := by
  obtain ⟨c, d⟩ := s
  have c2 : w.cell? ⟨0, 0, none⟩ = some (errAt (A 2)) := hE 2 (by simp)
  have c12 : w.cell? ⟨1, 0, none⟩ = some (errAt (A 12)) := hE 12 (by simp)
  have hb0 := below_spt w (c, d)
  have hk := hidden (fun w' (h : Below (w.alloc (sptO (c, d))).heap.size (w.alloc (sptO (c, d))) w') => show w'.cell? ⟨0, 0, none⟩ = some (errAt (A 2)) ∧ w'.cell? ⟨1, 0, none⟩ = some (errAt (A 12)) by
    have hb := hb0.trans (h.mono hb0.size)
    exact ⟨by rw [World.cell?_of_block (w := w) (hb.block _ (World.block_lt_of_cell? _ _ c2))]; exact c2, by rw [World.cell?_of_block (w := w) (hb.block _ (World.block_lt_of_cell? _ _ c12))]; exact c12⟩)
  have hbw := hidden (fun w' (h : Below (w.alloc (sptO (c, d))).heap.size (w.alloc (sptO (c, d))) w') => hb0.trans (h.mono hb0.size))
  have hcs := hidden (fun w' => spot_cells w w' c d)
  have hS := hidden (isSpot_any (c, d) (w.alloc (sptO (c, d))))
  have hC := hidden (fun W => isQty_any q W)
  have hG := hidden (fun W (hb : Below w.heap.size w W) (hs : spIn (c, d)) => hoGet_any W B g n T (h.below hb (Nat.le_refl _)) (c, d) hs)
  clear hE c2 c12 hb0
  unfold HoDone
  by_cases hs : spOk (c, d)
  · by_cases hq : qtOk q
    · have hC' := hidden (fun W => show Calls Tryd.prog 15 #[.int .i64 q] W (fun e w' => e = .returned (.bool true) ∧ W = w') by have := hC.out W; rwa [decide_eq_true hq] at this)
      have hS' := hS.out
      rw [decide_eq_true hs] at hS'
      replace hS := hidden hS'
      replace hC := hC'
      clear hC' hS'
      have hx := h.ho.get (c, d)
      replace hG := hidden (fun W hb => hG.out W hb hs.isIn)
      unfold takHC takHT
      rw [if_pos ⟨hs, hq⟩]
      by_cases hsh : getQ T (c, d) - q < 0
      · rw [if_pos hsh, if_neg (fun e => e.2.2 hsh)]
        replace h := hidden h
        have hqn := hq
        unfold qtOk at hqn
        generalize getQ T (c, d) = x at *
        clear hs hq
        go_enter Tryd.func7, Tryd.ntmps7
        go_wp2_with fail
        refine hS.out.mono ?_
        rintro r w1 ⟨rfl, hb⟩
        obtain ⟨j0, j1⟩ := hcs.out _ hb
        replace hb := hidden hb
        clear hS
        go_wp2_with fail
        refine (hC.out _).mono ?_
        rintro r w2 ⟨rfl, rfl⟩
        clear hC
        go_wp2_with fail
        refine (hG.out _ (hbw.out _ hb.out)).mono ?_
        rintro r w2 ⟨rfl, hb2⟩
        obtain ⟨_, cE⟩ := hk.out _ (hb.out.trans (hb2.mono hb.out.size))
        have hb1 := hidden (hbw.out _ (hb.out.trans (hb2.mono hb.out.size)))
        clear hG hb2 hb hk hbw hcs j0 j1
        go_wp2
        go_ret
        exact ⟨rfl, (h.out.below hb1.out (Nat.le_refl _)).mono (Nat.le_succ _), Trd.of_below hb1.out (Nat.le_refl _)⟩
      · rw [if_neg hsh, if_pos ⟨hs, hq, hsh⟩]
        have hqn := hq
        unfold qtOk at hqn
        obtain ⟨b, hg, hm, hbB⟩ := h.some (s := (c, d)) (by omega)
        have hgl := h.lt
        replace h := hidden h
        replace hg := hidden hg
        replace hm := hidden hm
        replace hbB := hidden hbB
        replace hs := hidden hs
        generalize getQ T (c, d) = x at *
        generalize hT2 : (if x - q = 0 then dropK T (c, d) else updK T (c, d) (x - q)) = T2
        replace hT2 := hidden hT2
        go_enter Tryd.func7, Tryd.ntmps7
        go_wp2_with fail
        refine hS.out.mono ?_
        rintro r w1 ⟨rfl, hb⟩
        obtain ⟨j0, j1⟩ := hcs.out _ hb
        replace hb := hidden hb
        clear hS
        go_wp2_with fail
        refine (hC.out _).mono ?_
        rintro r w2 ⟨rfl, rfl⟩
        clear hC
        go_wp2_with fail
        refine (hG.out _ (hbw.out _ hb.out)).mono ?_
        rintro r w2 ⟨rfl, hb2⟩
        obtain ⟨k0, k1⟩ := hcs.out _ (hb.out.trans (hb2.mono hb.out.size))
        have hb1 := hidden (hbw.out _ (hb.out.trans (hb2.mono hb.out.size)))
        clear hG hb2 hb hk hbw hcs j0 j1
        have hg1 := (hb1.out.block _ hgl).trans hg.out
        have c0 : w2.cell? ⟨g, 0, none⟩ = some (.map (some b)) := by rw [cell_of_row _ _ _ _ _ _ hg1]; rfl
        have hne : g ≠ b := by
          obtain ⟨es, c, hes⟩ := hm.out.isMap
          exact h.out.ne_map hes
        have hne2 : w.heap.size ≠ b := by have := hm.out.lt; omega
        have hm1 := hidden (hm.out.block (hb1.out.block _ hm.out.lt))
        have ht1 := hidden (Trd.of_below (S := hoB w g) hb1.out (Nat.le_refl _))
        have hbs : ∀ k, k = b → hoB w g k := fun k e => .inr (by rw [e, cell_of_row _ _ _ _ _ _ hg.out]; rfl)
        by_cases hz : x - q = 0
        · have eT : dropK T (c, d) = T2 := by rw [← hT2.out, if_pos hz]
          obtain ⟨w3, hrun, h3, ht3⟩ := hoAt_drop hg1 hm1.out hbB.out h.out.low h.out.ho hs.out 0
          rw [eT] at h3
          replace h3 := hidden h3
          have s3 := hidden (three_cells ht3 hne hne2 c0 k0 k1)
          have ht := hidden (Trd.mono (S' := hoB w g) ht3 hbs)
          clear hg1 ht3 hg hm hm1 hs h hn hne hne2 hbs hbB hb1 eT hT2
          go_wp2_with fail
          go_region_held3 (fun W => W.cell? ⟨g, 0, none⟩ = some (.map (some b)) ∧ W.cell? ⟨w.heap.size, 0, none⟩ = some (.int .i64 c) ∧ W.cell? ⟨w.heap.size, 1, none⟩ = some (.int .i64 d))
            ((first | exact ⟨c0, k0, k1⟩ | exact s3.out)) (fail)
          go_wp2
          go_ret
          exact ⟨rfl, h3.out.mono (Nat.le_succ _), ht1.out.trans ht.out⟩
        · have eT : updK T (c, d) (x - q) = T2 := by rw [← hT2.out, if_neg hz]
          obtain ⟨w3, hrun, h3, ht3⟩ := hoAt_put hg1 hm1.out hbB.out h.out.low h.out.ho hn hs.out (x := x - q) (by unfold qtOk; omega)
          rw [eT] at h3
          replace h3 := hidden h3
          have s3 := hidden (three_cells ht3 hne hne2 c0 k0 k1)
          have ht := hidden (Trd.mono (S' := hoB w g) ht3 hbs)
          have hzb : (x - q == 0) = false := by simpa using hz
          clear hg1 ht3 hg hm hm1 hs h hn hne hne2 hbs hbB hb1 eT hT2
          go_wp2_with fail
          go_region_held3 (fun W => W.cell? ⟨g, 0, none⟩ = some (.map (some b)) ∧ W.cell? ⟨w.heap.size, 0, none⟩ = some (.int .i64 c) ∧ W.cell? ⟨w.heap.size, 1, none⟩ = some (.int .i64 d))
            ((first | exact ⟨c0, k0, k1⟩ | exact s3.out)) (fail)
          go_wp2
          go_ret
          exact ⟨rfl, h3.out, ht1.out.trans ht.out⟩
    · have hC' := hidden (fun W => show Calls Tryd.prog 15 #[.int .i64 q] W (fun e w' => e = .returned (.bool false) ∧ W = w') by have := hC.out W; rwa [decide_eq_false hq] at this)
      have hS' := hS.out
      rw [decide_eq_true hs] at hS'
      replace hS := hidden hS'
      unfold takHC takHT
      rw [if_neg (fun e => hq e.2), if_neg (fun e => hq e.2.1)]
      replace h := hidden h
      clear hs hq hcs hG hS' hC
      go_enter Tryd.func7, Tryd.ntmps7
      go_wp2_with fail
      refine hS.out.mono ?_
      rintro r w1 ⟨rfl, hb⟩
      obtain ⟨cE, _⟩ := hk.out _ hb
      have hb1 := hidden (hbw.out _ hb)
      clear hb hk hbw hS
      go_wp2_with fail
      refine (hC'.out _).mono ?_
      rintro r w2 ⟨rfl, rfl⟩
      go_wp2
      go_ret
      exact ⟨rfl, (h.out.below hb1.out (Nat.le_refl _)).mono (Nat.le_succ _), Trd.of_below hb1.out (Nat.le_refl _)⟩
  · have hS' := hS.out
    rw [decide_eq_false hs] at hS'
    replace hS := hidden hS'
    unfold takHC takHT
    rw [if_neg (fun e => hs e.1), if_neg (fun e => hs e.1)]
    replace h := hidden h
    clear hs hC hcs hG hS'
    go_enter Tryd.func7, Tryd.ntmps7
    go_wp2_with fail
    refine hS.out.mono ?_
    rintro r w1 ⟨rfl, hb⟩
    obtain ⟨cE, _⟩ := hk.out _ hb
    have hb1 := hidden (hbw.out _ hb)
    clear hb hk hbw hS
    go_wp2
    go_ret
    exact ⟨rfl, (h.out.below hb1.out (Nat.le_refl _)).mono (Nat.le_succ _), Trd.of_below hb1.out (Nat.le_refl _)⟩
end Go.Proofs.YteinajoiambigaaDoor
