/-
  widen.
-/
import Derived.Test.YtghkmagofadkfaaDoorCaps5
namespace Go.Proofs.YtghkmagofadkfaaDoor
open Go.RowKit Go.Maps Go.MapKept
set_option linter.unusedVariables false

theorem KeyRange.cnt_le {κ : Type} {P : Program} {k e : TypeId} {q : IntKind} {ek : κ → Value} {ok : κ → Prop} {w : World} {b r n cnt : Nat} {T : κ → Option Int} {lf : κ → Bool} (h : KeyRange P k e q ek ok w b r n T lf cnt) : cnt ≤ n := by
  obtain ⟨D, left, ⟨es, clock, since, seen, c0, _, _, hs, _, _, _, hc, _⟩, _⟩ := h
  have : (leftOf es seen).size ≤ es.size := Array.size_filter_le
  omega
abbrev GrRange (w : World) (b r n : Nat) (G : GTab) (lf : GrpT → Bool) (cnt : Nat) : Prop := KeyRange Tryd.prog 81 2 .i64 grV grIn w b r n G lf cnt
/-- the map that is gone through, the map that is filled, what has been done. -/
def WidRel (T : CTab) (G : GTab) (k : Int) (b nb : Nat) (w0 w : World) : Prop :=
  ∃ (lf : GrpT → Bool) (cnt nh : Nat) (H : GTab), GrRange w b (w0.heap.size + 1) nb G lf cnt ∧ nh + cnt ≤ nb ∧ GrMap w w0.heap.size nh H ∧ WidAt T G k lf H ∧ Below w0.heap.size w0 w
/-- a limit in a block, a group in the next. -/
abbrev WidS (p : Nat) (l1 l2 a b c : Int) (W : World) : Prop :=
  (W.cell? ⟨p, 0, none⟩ = some (.int .i64 l1) ∧ W.cell? ⟨p, 1, none⟩ = some (.int .i64 l2)) ∧ W.cell? ⟨p + 1, 0, none⟩ = some (.int .i64 a) ∧ W.cell? ⟨p + 1, 1, none⟩ = some (.int .i64 b) ∧ W.cell? ⟨p + 1, 2, none⟩ = some (.int .i64 c)
theorem widS_new (w : World) (l1 l2 a b c : Int) : WidS w.heap.size l1 l2 a b c ((w.alloc (lmO (l1, l2))).alloc (grO (a, b, c))) := by
  have h1 : ((w.alloc (lmO (l1, l2))).alloc (grO (a, b, c))).heap[w.heap.size]? = some (lmO (l1, l2)) := (heap_alloc_old _ _ (by simp)).trans (heap_alloc_new w _)
  have h2 : ((w.alloc (lmO (l1, l2))).alloc (grO (a, b, c))).heap[w.heap.size + 1]? = some (grO (a, b, c)) := by
    have := heap_alloc_new (w.alloc (lmO (l1, l2))) (grO (a, b, c))
    simpa only [World.size_alloc] using this
  refine ⟨⟨?_, ?_⟩, ?_, ?_, ?_⟩
  · rw [cell_of_row _ _ _ _ _ _ h1]; rfl
  · rw [cell_of_row _ _ _ _ _ _ h1]; rfl
  · rw [cell_of_row _ _ _ _ _ _ h2]; rfl
  · rw [cell_of_row _ _ _ _ _ _ h2]; rfl
  · rw [cell_of_row _ _ _ _ _ _ h2]; rfl
theorem widS_trd {p b2 : Nat} {l1 l2 a b c : Int} {W W' : World} (h : WidS p l1 l2 a b c W) (ht : Trd (· = b2) W W') (hp : b2 < p) : WidS p l1 l2 a b c W' := by
  obtain ⟨⟨h1, h2⟩, h3, h4, h5⟩ := h
  have q1 := ht.block p (World.block_lt_of_cell? W _ h1) (by omega)
  have q2 := ht.block (p + 1) (World.block_lt_of_cell? W _ h3) (by omega)
  refine ⟨⟨?_, ?_⟩, ?_, ?_, ?_⟩
  · rw [World.cell?_of_block (w := W) q1]; exact h1
  · rw [World.cell?_of_block (w := W) q1]; exact h2
  · rw [World.cell?_of_block (w := W) q2]; exact h3
  · rw [World.cell?_of_block (w := W) q2]; exact h4
  · rw [World.cell?_of_block (w := W) q2]; exact h5
theorem widS_below {p : Nat} {l1 l2 a b c : Int} {W W' : World} (h : WidS p l1 l2 a b c W) (hb : Below W.heap.size W W') (b2 : Nat) (hp : b2 < p) : WidS p l1 l2 a b c W' := widS_trd h (Trd.of_below (S := (· = b2)) hb (Nat.le_refl _)) hp
theorem CpAt.trd1 {w w' : World} {B g n b : Nat} {T : CTab} (h : CpAt w B g n T) (ht : Trd (· = b) w w') (hb : ∀ k, cpB w g k → k ≠ b) : CpAt w' B g n T := h.trd ht hb
theorem gr_ext (s : GrpT) (k : Int) : outG s k = ((outG s k).1, (outG s k).2.1, (outG s k).2.2) := rfl
set_option maxRecDepth 100000 in
set_option maxHeartbeats 6400000 in
theorem widen_any (A : Nat → Addr) (w : World) (B g n : Nat) (T : CTab) (h : CpAt w B g n T) (b nb : Nat) (G : GTab) (hM : GrMap w b nb G) (hn : nb ≤ 100000) (l : List Ln) (k : Int) (hk : kOk k) (hG : LvAt T l k G) (hE : ErrsOn [2, 3] w A) :
    Calls Tryd.prog 29 #[.pointer (some ⟨g, 0, none⟩), .map (some b), .int .i64 k] w (GrsAt A nb (LvAt T l (k - 1)) (¬ fits T l) w) := by
  have hmm := @run_makeMap Tryd.prog
  have hbl := hM.lt
  have e1 : (w.alloc (.map #[] 0)).heap.size = w.heap.size + 1 := by simp
  have hM1 : GrMap (w.alloc (.map #[] 0)) b nb G := hM.block (heap_alloc_old w _ hbl)
  replace h := hidden h
  replace hG := hidden hG
  replace hE := hidden hE
  replace hk := hidden hk
  unfold GrsAt
  go_enter Tryd.func29, Tryd.ntmps29
  go_wp2_with (first
    | (at_range; refine wpList_range_key rfl _ rfl gr_enc Tryd.underlying75 rfl hM1 ?_; intro w0 cnt0 hrg0 hg0 hs0)
    | go_in)
  go_frame
  rw [e1] at hrg0 hs0 ⊢
  go_loopw [10] (fun _ wr => WidRel T G k b nb w wr) (fun _ wr => wr.rangeLeft b (w.heap.size + 1))
  case atStart =>
    exact ⟨_, cnt0, 0, noG, hrg0, by have := hrg0.cnt_le; omega, KeyTab.block (keyTab_made w) (hg0.block _ (by simp) (by simp)), widAt_no T G k, ((Below.refl _ w).alloc (Nat.le_refl _) _).grown hg0 (by simp) (fun j hj => by cases hj)⟩
  case round =>
    obtain ⟨lf, cnt, nh, H, hrg, hc, hH, hwid, hb⟩ := hrel
    go_wp2_with (first
      | (at_next; refine wpList_next_key rfl _ rfl gr_enc gr_dec Tryd.underlying2 rfl hrg ?_ ?_)
      | go_in)
    · intro hl0
      have hend := hidden (wid_end hk.out h.out.ho hG.out hwid (fun s hs => hl0 s.1 s.2.1 s.2.2 hs))
      replace hH := hidden hH
      replace hb := hidden hb
      clear hwid hrg hrg0 hM1 hM
      go_wp2
      go_ret2
      exact .inl ⟨_, _, _, by omega, rfl, hH.out, hend.out, hb.out⟩
    · intro a1 a2 a3 v w1 cnt1 hx hlx hTx hrg1 hlt hg1 hs1 hen
      have hxok := hG.out.1 _ _ hTx
      have hgx : getG G (a1, a2, a3) = v := by unfold getG; rw [hTx]; rfl
      have hcg : cgV T G k (a1, a2, a3) = capN v (getC T (outL (a1, a2, a3) k)) := by unfold cgV; rw [hgx]
      have hcn := cgV_nn (T := T) hG.out.1 (a1, a2, a3)
      have hcm := cgV_le (T := T) hG.out.1 (a1, a2, a3)
      have hlin := hidden (outL_in hk.out hxok.1)
      have hpok := (fib_there hk.out hxok.1).1
      have hsome : (G (a1, a2, a3)).isSome = true := by rw [hTx]; rfl
      have hstep := hidden (fun hv => widAt_step (T := T) hk.out hG.out.1 hwid hxok.1 hlx hsome hv)
      have hover := hidden (fun hv => wid_over hk.out hG.out hwid hxok.1 hlx hsome hv)
      have hm1 := hidden (show wr.rangeLeft b (w.heap.size + 1) = cnt from hrg.left_eq)
      have hH1 : GrMap w1 w.heap.size nh H := hH.block (hg1.block _ hH.lt (by simp))
      have hb1 : Below w.heap.size w w1 := hb.grown hg1 hb.size (fun j hj => by cases hj; exact Nat.le_succ _)
      have hsz : w.heap.size < w1.heap.size := by have := hH1.lt; exact this
      have hO := hidden (outward_any (a1, a2, a3) k (w1.alloc (grO (a1, a2, a3))))
      have hpin := hidden hpok.isIn
      rw [hcg] at hcn hcm
      rw [hcg] at hstep hover
      have hCap := hidden (fun W (hL : CpAt W B g n T) => cpCap_any W B g n T hL (outL (a1, a2, a3) k) hlin.out v)
      have hHgr := hidden hwid.1
      have hAf := hidden (fun W (hH : GrMap W w.heap.size nh H) (hb : Below w.heap.size w W) hv => grAdd_fine A W w.heap.size nh (k - 1) H hH (by omega) hHgr.out (outG (a1, a2, a3) k) hpin.out _ hcn hcm (hE.out.below hb (Nat.le_refl _)) hv)
      have hAo := hidden (fun W (hH : GrMap W w.heap.size nh H) (hb : Below w.heap.size w W) hv => grAdd_over A W w.heap.size nh (k - 1) H hH (by omega) hHgr.out (outG (a1, a2, a3) k) hpin.out _ hcn hcm (hE.out.below hb (Nat.le_refl _)) hv)
      have hbne : b ≠ w.heap.size := by omega
      replace hrg1 := hidden hrg1
      replace hH1 := hidden hH1
      replace hb1 := hidden hb1
      replace hsz := hidden hsz
      replace hlt := hidden hlt
      replace hc := hidden hc
      clear hrg hH hwid hb hg1 hTx hlx hxok hgx hcg hsome hpok hrg0 hM1 hM hg0 hs0 hHgr hpin hlin hs1 hx hcn hcm
      generalize outL (a1, a2, a3) k = L at *
      generalize outG (a1, a2, a3) k = P at *
      generalize capN v (getC T L) = cg at *
      obtain ⟨l1, l2⟩ := L
      obtain ⟨p1, p2, p3⟩ := P
      go_wp2_with fail
      (with_reducible refine hO.out.mono ?_)
      rintro e w3 ⟨rfl, hb3⟩
      have hb13 : Below w1.heap.size w1 w3 := (below_gr w1 (a1, a2, a3)).trans (hb3.mono (below_gr w1 (a1, a2, a3)).size)
      have hp3 : w.heap.size < w3.heap.size := Nat.lt_of_lt_of_le hsz.out hb13.size
      have hb14 : Below w1.heap.size w1 (((w3.alloc (lmO (l1, l2))).alloc (grO (p1, p2, p3))).drew) := ((hb13.alloc hb13.size _).alloc (by have := hb13.size; simp; omega) _).drew
      have hlow := hidden (hb1.out.trans (hb14.mono hb1.out.size))
      have hL := hidden (h.out.below hlow.out (Nat.le_refl _))
      have hH := hidden (hH1.out.block (hb14.block _ hH1.out.lt))
      have hR := hidden (hrg1.out.blocks (hb14.block _ hrg1.out.tab.lt) (hb14.block _ hrg1.out.lt))
      have hs0 := hidden (widS_new w3 l1 l2 p1 p2 p3)
      clear hb3 hb13 hb14 hO hH1 hrg1 hb1 hsz
      by_cases hv : getG H (p1, p2, p3) + cg ≤ 1000000000000000
      · have hst := hidden (hstep.out hv)
        have hAdd := hidden (fun W hH hb => hAf.out W hH hb hv)
        clear hstep hover hAf hAo hv
        go_wp2_with fail
        (go_region_held3 (fun W => (W.cell? ⟨w3.heap.size, 0, none⟩ = some (.int .i64 l1) ∧ W.cell? ⟨w3.heap.size, 1, none⟩ = some (.int .i64 l2)) ∧ W.cell? ⟨w3.heap.size + 1, 0, none⟩ = some (.int .i64 p1) ∧ W.cell? ⟨w3.heap.size + 1, 1, none⟩ = some (.int .i64 p2) ∧ W.cell? ⟨w3.heap.size + 1, 2, none⟩ = some (.int .i64 p3))
          ((first | exact hs0.out | assumption | exact widS_trd (by assumption) ht6 hp3 | exact widS_below (by assumption) hb5 _ hp3))
          ((first
            | (go_at_call 37; (with_reducible refine (hCap.out _ hL.out).mono ?_); rintro e' w' ⟨rfl, hb5⟩; replace hL := hidden (hL.out.below hb5 (Nat.le_refl _)); replace hH := hidden (hH.out.block (hb5.block _ hH.out.lt)); replace hR := hidden (hR.out.blocks (hb5.block _ hR.out.tab.lt) (hb5.block _ hR.out.lt)); replace hlow := hidden (hlow.out.trans (hb5.mono hlow.out.size)))
            | (go_at_call 35; (with_reducible refine (hAdd.out _ hH.out hlow.out).mono ?_); rintro e' w' ⟨rfl, hH6, ht6⟩; replace hH := hidden hH6; replace hR := hidden (hR.out.blocks (ht6.block _ hR.out.tab.lt hbne) (ht6.block _ hR.out.lt (by omega))); replace hlow := hidden (hlow.out.trans (ht6.below (B := w.heap.size) (fun j hj => by rw [hj]; exact Nat.le_refl _) hlow.out.size))))))
        clear hs0 hCap hAdd
        go_wp2
        go_roundw
        case rel => exact ⟨_, cnt1, nh + 1, _, hR.out, by have := hc.out; have := hlt.out; omega, hH.out, hst.out, hlow.out⟩
        case measure => rw [hR.out.left_eq, hm1.out]; exact hlt.out
      · have hno := hidden (hover.out (by omega))
        have hAdd := hidden (fun W hH hb => hAo.out W hH hb (by omega))
        clear hstep hover hAf hAo hv
        go_wp2_with fail
        (go_region_held3 (fun W => (W.cell? ⟨w3.heap.size, 0, none⟩ = some (.int .i64 l1) ∧ W.cell? ⟨w3.heap.size, 1, none⟩ = some (.int .i64 l2)) ∧ W.cell? ⟨w3.heap.size + 1, 0, none⟩ = some (.int .i64 p1) ∧ W.cell? ⟨w3.heap.size + 1, 1, none⟩ = some (.int .i64 p2) ∧ W.cell? ⟨w3.heap.size + 1, 2, none⟩ = some (.int .i64 p3))
          ((first | exact hs0.out | assumption | exact widS_below (by assumption) hb6 _ hp3 | exact widS_below (by assumption) hb5 _ hp3))
          ((first
            | (go_at_call 37; (with_reducible refine (hCap.out _ hL.out).mono ?_); rintro e' w' ⟨rfl, hb5⟩; replace hL := hidden (hL.out.below hb5 (Nat.le_refl _)); replace hH := hidden (hH.out.block (hb5.block _ hH.out.lt)); replace hlow := hidden (hlow.out.trans (hb5.mono hlow.out.size)))
            | (go_at_call 35; (with_reducible refine (hAdd.out _ hH.out hlow.out).mono ?_); rintro e' w' ⟨rfl, hb6⟩; replace hlow := hidden (hlow.out.trans (hb6.mono hlow.out.size))))))
        clear hs0 hCap hAdd
        go_wp2
        go_ret2
        exact .inr ⟨rfl, hno.out, hlow.out⟩
end Go.Proofs.YtghkmagofadkfaaDoor
