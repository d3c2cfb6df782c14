/-
  Split.
-/
import Derived.Test.YtddoibnagbbndaaDoorShare7
namespace Go.Proofs.YtddoibnagbbndaaDoor
open Go Go.RowKit
set_option linter.unusedVariables false

theorem Nu23.other {T : TypeId} {w : World} {g b o : Nat} {l : List Int} {v : Value} (h : Nu23 T w g l) (hn : g ≠ b) : Nu23 T (w.setCell ⟨b, o, none⟩ v) g l := by
  unfold Nu23
  rw [Below.heap_setCell _ _ _ _ (by exact hn)]
  exact h
/-- a row that is filled from its beginning. -/
def upL (f : Nat → Int) (n k : Nat) : List Int := (List.range n).map fun i => if i < k then f i else 0
theorem upL_len (f : Nat → Int) (n k : Nat) : (upL f n k).length = n := by simp [upL]
theorem upL_zero (f : Nat → Int) (n : Nat) : upL f n 0 = List.replicate n 0 := by
  unfold upL
  refine List.ext_getElem (by simp) fun k h1 h2 => ?_
  simp
theorem upL_get {f : Nat → Int} {n k i : Nat} (h : i < (upL f n k).length) : (upL f n k)[i] = if i < k then f i else 0 := by simp [upL]
theorem upL_set (f : Nat → Int) (n k : Nat) : (upL f n k).set k (f k) = upL f n (k + 1) := by
  refine List.ext_getElem (by simp [upL]) fun j h1 h2 => ?_
  simp only [List.length_set, upL_len] at h1
  rw [List.getElem_set, upL_get, upL_get]
  by_cases e : k = j
  · subst e; rw [if_pos rfl, if_pos (by omega)]
  · rw [if_neg e]
    by_cases q : j < k
    · rw [if_pos q, if_pos (by omega)]
    · rw [if_neg q, if_neg (by omega)]
theorem upL_end (f : Nat → Int) (n : Nat) : upL f n n = (List.range n).map f := List.map_congr_left fun x hx => by rw [if_pos (List.mem_range.1 hx)]
theorem upL_at (f : Nat → Int) {n k i : Nat} (h : i < n) : (upL f n k).getD i 0 = if i < k then f i else 0 := by
  unfold upL
  rw [List.getD_eq_getElem?_getD, List.getElem?_map, List.getElem?_range h]; rfl

theorem errOf_bad23 (A : Nat → Addr) {c : Int} (h : c ≠ 0) : ∃ a, errOf A c = errAt a := ⟨_, if_neg h⟩
/-- what Split answers. -/
def spA (W : Int) (L : List Int) : List Int := if shC W L = 0 then shL W L else []
def SpAt23 (A : Nat → Addr) (W : Int) (L : List Int) (w : World) (e : Ending) (w' : World) : Prop := ∃ v', e = .returned (.tuple #[v', errOf A (shC W L)]) ∧ Reads .i64 w' v' (spA W L) ∧ Below w.heap.size w w'
def SpRel1 (W : Int) (L : List Int) (w0 : World) (P Q : Nat) (left i : Value) (w : World) : Prop := ∃ k : Nat, k ≤ L.length ∧ i = .int .i64 (k : Int) ∧ left = .int .i64 (W - suF (flF W L) k) ∧ Nu23 2 w P (upL (flF W L) L.length k) ∧ Nu23 2 w Q (upL (reF W L) L.length k) ∧ Below w0.heap.size w0 w
def SpRel2 (W : Int) (L : List Int) (w0 : World) (P G t : Nat) (f : Nat → Nat) (i : Value) (w : World) : Prop := ∃ k : Nat, k ≤ t ∧ i = .int .i64 (k : Int) ∧ Nu23 2 w P (ptL W L k) ∧ (∀ j, j < L.length → w.cell? ⟨G, j, none⟩ = some (.int .i64 (f j : Int))) ∧ Below w0.heap.size w0 w
set_option maxRecDepth 100000 in
set_option maxHeartbeats 6400000 in
theorem split_any23 (A : Nat → Addr) (W : Int) (v : Value) (L : List Int) (w : World) (hr : Reads .i64 w v L) (hE : ErrsOn [2, 3, 4, 5] w A) :
    Calls Tryd.prog 8 #[.int .i64 W, v] w (SpAt23 A W L w) := by
  have hT := total_any23 A W v L w hr hE
  unfold SpAt23
  by_cases h0 : shC W L = 0
  · have hok := shC_fine.1 h0
    have htl : tlV W L = smW L := if_pos h0
    have hsp := hidden (show spA W L = shL W L from if_pos h0)
    rw [h0, errOf_fine, htl] at hT
    rw [h0, errOf_fine]
    replace hT := hidden hT
    obtain ⟨a1, c1, rfl⟩ := reads_slice hr
    have hlen := hok.len
    have hmk := mk_longs23 L.length (by omega)
    by_cases hS : smW L = 0
    · have hz := hidden (sh_zero hS (hok.fit hS))
      rw [hS] at hT
      clear hr hE h0 htl
      go_enter Tryd.func8, Tryd.ntmps8
      go_wp2_with fail
      refine hT.out.mono ?_
      rintro e w1 ⟨rfl, m, rfl⟩
      clear hT
      have hN := hidden (Nu23.new 2 (w.drewN m) L.length)
      have hb := hidden (((Below.refl w.heap.size w).trans ⟨rfl, rfl, rfl, Nat.le_refl _, fun _ _ => rfl⟩ : Below w.heap.size w (w.drewN m)).alloc (Nat.le_refl _) (.cells (Array.replicate L.length (.int .i64 0)) 2))
      go_wp2
      go_ret2
      exact ⟨_, rfl, by rw [hsp.out, hz.out]; exact hN.out.reads (by simp) (by omega), hb.out⟩
    · have hS0 : 0 < smW L := by have := hok.pos; omega
      have hS2 := hok.sum
      have hlb := hok.left_bd hS0
      have hsome := hok.some hS0
      obtain ⟨t, ht⟩ : ∃ t : Nat, lfW W L = (t : Int) := ⟨(lfW W L).toNat, by omega⟩
      have htn : t < L.length := by omega
      have hshl := hidden (show shL W L = ptL W L t from by unfold shL; rw [ht]; rfl)
      have hx := hidden (fun k hk W' (hW : Below w.heap.size w W') => (hr.below hW (Nat.le_refl _)).cell k hk)
      have hfl := hidden (fun k (hk : k < L.length) => hok.fl hS0 hk)
      have hD := hidden (fun k (hk : k < L.length) (W' : World) => show Calls Tryd.prog 17 #[.int .i64 W, .int .i64 (wF L k), .int .i64 (smW L)] W' (fun e w' => e = .returned (.tuple #[.int .i64 (flF W L k), .int .i64 (reF W L k)]) ∧ ∃ k, w' = W'.drewN k) from divide_any23 W (wF L k) (smW L) W' hok.w (hok.all k hk).1 (hok.le hk) hS0 hS2)
      have hlfe := hidden (show W - suF (flF W L) L.length = (t : Int) from ht)
      have hWb := hidden hok.w
      have hsub := hidden (fun k (hk : k < L.length) => show 0 ≤ suF (flF W L) k ∧ suF (flF W L) (k + 1) = suF (flF W L) k + flF W L k ∧ suF (flF W L) (k + 1) ≤ W from by
        refine ⟨suF_pos fun i hi => (hok.fl hS0 (by omega)).1, rfl, ?_⟩
        have h1 := suF_upto (f := flF W L) (k := L.length) (fun i hi => (hok.fl hS0 hi).1) (k + 1) (by omega)
        unfold lfW at hlb
        omega)
      have hpt := hidden (fun (k p : Nat) (hp : p < L.length) => show 0 ≤ ptF W L k p ∧ ptF W L k p ≤ 1000000000000001 from by
        have h1 := hok.fl hS0 hp
        have h2 := hok.w.2
        unfold ptF
        split <;> omega)
      have hrk := hidden (fun (f : Nat → Nat) (hf : ∀ x, x < L.length → f x < L.length) (hs : SoR (rsF (upL (reF W L) L.length L.length)) f 0 L.length) (x : Nat) (hx : x < L.length) => show rkW W L (f x) = x from
        rk_at hf (fun p q h1 h2 h3 => by
          have := hs p q h1 h2 h3
          have e1 : ∀ y, y < L.length → rsF (upL (reF W L) L.length L.length) y = reF W L y := fun y hy => by unfold rsF; rw [upL_at _ hy, if_pos hy]
          unfold LtR at this ⊢
          rw [e1 _ (hf p (by omega)), e1 _ (hf q h3)] at this
          exact this) hx)
      have hF := hidden (fun W' (Q : Nat) (hN : Nu23 2 W' Q (upL (reF W L) L.length L.length)) => falling_any23 (.slice (some ⟨Q, 0, none⟩) L.length L.length) _ W' (hN.reads (upL_len _ _ _) (by omega)) (by rw [upL_len]; exact hsome) (by rw [upL_len]; omega))
      unfold FaAt23 at hF
      rw [upL_len] at hF
      have hSd : (smW L == 0) = false := by simp; exact hS
      have hp0 := hidden (pt_none (W := W) (L := L))
      clear hr hE h0 htl hok hS hS0 hS2 hlb ht
      generalize smW L = S at *
      go_enter Tryd.func8, Tryd.ntmps8
      go_wp2_with fail
      refine hT.out.mono ?_
      rintro e w1 ⟨rfl, m, rfl⟩
      clear hT
      have hN1 := Nu23.new 2 (w.drewN m) L.length
      have hb1 : Below w.heap.size w ((w.drewN m).alloc (.cells (Array.replicate L.length (.int .i64 0)) 2)) := ((Below.refl w.heap.size w).trans ⟨rfl, rfl, rfl, Nat.le_refl _, fun _ _ => rfl⟩ : Below w.heap.size w (w.drewN m)).alloc (Nat.le_refl _) _
      have hN2 := Nu23.new 2 ((w.drewN m).alloc (.cells (Array.replicate L.length (.int .i64 0)) 2)) L.length
      have hbA := (Below.refl _ ((w.drewN m).alloc (.cells (Array.replicate L.length (.int .i64 0)) 2))).alloc (Nat.le_refl _) (.cells (Array.replicate L.length (.int .i64 0)) 2)
      have hN3 := hN1.below hbA
      have hb2 := hb1.trans (hbA.mono hb1.size)
      have hsz : ((w.drewN m).alloc (.cells (Array.replicate L.length (.int .i64 0)) 2)).heap.size = w.heap.size + 1 := by simp
      have hsz0 : (w.drewN m).heap.size = w.heap.size := rfl
      rw [hsz] at hN2
      rw [hsz0] at hN3
      have hst := hidden (show SpRel1 W L w w.heap.size (w.heap.size + 1) (.int .i64 W) (.int .i64 0) _ from ⟨0, Nat.zero_le _, rfl, by simp [suF], by rw [upL_zero]; exact hN3, by rw [upL_zero]; exact hN2, hb2⟩)
      clear hN1 hN2 hN3 hb1 hb2 hbA hsz hsz0
      go_wp2_with fail
      go_loopw [10, 36] (fun l i wr => SpRel1 W L w w.heap.size (w.heap.size + 1) l i wr) (fun _ i _ => L.length - (RowKit.intOf i).toNat)
      case atStart => exact hst.out
      case round =>
        clear hst
        obtain ⟨k, hk, rfl, rfl, hP, hQ, hb⟩ := hrel
        by_cases hlt : k < L.length
        · obtain ⟨b, o, rfl, q0⟩ := hx.out k hlt _ hb
          rw [show L.getD k 0 = wF L k from rfl] at q0
          have hlI : (k : Int) < (L.length : Int) := by omega
          have hD1 := hidden (hD.out k hlt wr)
          have cP := hP.cell (i := k) (by rw [upL_len]; exact hlt)
          have cQ := hQ.cell (i := k) (by rw [upL_len]; exact hlt)
          have fP := hP.frozen k
          have fQ := hQ.frozen k
          have hP2 := hidden (fun m => (((hP.drewN m).set k (flF W L k)).other (b := w.heap.size + 1) (o := k) (v := .int .i64 (reF W L k)) (by omega)))
          have hQ2 := hidden (fun m => (((hQ.drewN m).other (b := w.heap.size) (o := k) (v := .int .i64 (flF W L k)) (by omega)).set k (reF W L k)))
          rw [upL_set] at hP2 hQ2
          have hb2 := hidden (fun m => ((below_drewN (m := m) hb).setCell (p := ⟨w.heap.size, k, none⟩) (Nat.le_refl _) (.int .i64 (flF W L k))).setCell (p := ⟨w.heap.size + 1, k, none⟩) (Nat.le_succ _) (.int .i64 (reF W L k)))
          obtain ⟨s1, s2, s3⟩ := hsub.out k hlt
          have hW2 := hWb.out.2
          have hf2 := (hfl.out k hlt).1
          have hl2 := hidden (show W - suF (flF W L) k - flF W L k = W - suF (flF W L) (k + 1) from by omega)
          have hwl : IntKind.i64.wrap (W - suF (flF W L) k - flF W L k) = W - suF (flF W L) (k + 1) := by rw [IntKind.wrap_i64]; omega
          generalize hl' : W - suF (flF W L) (k + 1) = l' at *
          replace hl' := hidden hl'
          clear hP hQ hb hD hx hsub s1 s2 s3 hW2 hf2 hfl hl2
          generalize suF (flF W L) k = s0 at *
          generalize (upL (flF W L) L.length k).getD k 0 = z1 at *
          generalize (upL (reF W L) L.length k).getD k 0 = z2 at *
          generalize flF W L k = q at *
          generalize reF W L k = r at *
          generalize wF L k = x at *
          go_wp2_with fail
          refine hD1.out.mono ?_
          rintro e w1 ⟨rfl, m1, rfl⟩
          clear hD1
          go_wp2_with fail
          go_roundw
          case rel => exact ⟨k + 1, hlt, by go_num, by rw [hl'.out], hP2.out _, hQ2.out _, hb2.out _⟩
          case measure => simp [RowKit.intOf]; omega
        · obtain rfl : k = L.length := by omega
          have hF1 := hidden (hF.out _ _ hQ)
          rw [upL_end, ← hp0.out] at hP
          have hP1 := hidden (fun W' (hW : Below wr.heap.size wr W') => hP.below hW)
          have hb1 := hidden (fun W' (hW : Below wr.heap.size wr W') => hb.trans (hW.mono hb.size))
          have hPl := hidden (show w.heap.size < wr.heap.size from hP.lt)
          have hl0 := hlfe.out
          have htI : (t : Int) ≤ (L.length : Int) := by omega
          have htN : t ≤ L.length := by omega
          have ht0 : (0 : Int) ≤ (t : Int) := by omega
          rw [hl0]
          clear hP hQ hb hF hD hx hsub hfl hp0 hl0
          go_wp2_with fail
          refine hF1.out.mono ?_
          rintro e w1 ⟨G, f, rfl, hG, hc, hf, hso, hb5⟩
          have hP3 := hP1.out _ hb5
          have hb3 := hb1.out _ hb5
          have hst := hidden (show SpRel2 W L w w.heap.size G t f (.int .i64 0) w1 from ⟨0, Nat.zero_le _, rfl, hP3, hc, hb3⟩)
          have hrk2 := hidden (hrk.out f hf hso)
          have hne : G ≠ w.heap.size := by have := hPl.out; omega
          have hf' := hidden hf
          clear hF1 hP1 hb1 hP3 hb3 hc hso hrk hf hb5
          go_wp2_with fail
          go_loopw [66] (fun i wr => SpRel2 W L w w.heap.size G t f i wr) (fun i _ => t - (RowKit.intOf i).toNat)
          case atStart => exact hst.out
          case round =>
            clear hst
            obtain ⟨k, hk, rfl, hP, hc, hb⟩ := hrel
            by_cases hlt : k < t
            · have hkI : (k : Int) < (t : Int) := by omega
              have hkn : k < L.length := by omega
              have ck := hc k hkn
              have hpn := hf'.out k hkn
              have hpr := hrk2.out k hkn
              have hpi : (f k : Int) < (L.length : Int) := by omega
              have hpb := hpt.out k (f k) hpn
              have cP := hP.cell (i := f k) (by rw [ptL_len]; exact hpn)
              rw [ptL_at _ _ _ hpn] at cP
              have fP := hP.frozen (f k)
              have hP2 := hidden (hP.set (f k) (ptF W L k (f k) + 1))
              rw [pt_next hpn hpr] at hP2
              have hc2 := hidden (fun (v : Value) j (hj : j < L.length) => show (wr.setCell ⟨w.heap.size, f k, none⟩ v).cell? ⟨G, j, none⟩ = some (.int .i64 (f j : Int)) from by
                rw [World.cell?_of_block (w := wr) (Below.heap_setCell _ _ _ _ (by exact hne))]; exact hc j hj)
              have hb2 := hidden (hb.setCell (p := ⟨w.heap.size, f k, none⟩) (Nat.le_refl _) (.int .i64 (ptF W L k (f k) + 1)))
              have hw1 : IntKind.i64.wrap (ptF W L k (f k) + 1) = ptF W L k (f k) + 1 := by rw [IntKind.wrap_i64]; omega
              clear hP hc hb hpb hpr
              generalize ptF W L k (f k) = z at *
              generalize hfk : f k = p at *
              replace hfk := hidden hfk
              go_wp2_with fail
              go_roundw
              case rel => exact ⟨k + 1, hlt, by go_num, hP2.out, hc2.out _, hb2.out⟩
              case measure => simp [RowKit.intOf]; omega
            · obtain rfl : k = t := by omega
              have hend := hidden (hP.reads (n := L.length) (ptL_len _ _ _) (by omega))
              replace hb := hidden hb
              clear hP hc
              go_wp2
              go_ret2
              exact ⟨_, rfl, by rw [hsp.out, hshl.out]; exact hend.out, hb.out⟩
  · obtain ⟨a, ha⟩ := errOf_bad23 A h0
    have hsp := hidden (show spA W L = [] from if_neg h0)
    rw [ha] at hT
    rw [ha]
    replace hT := hidden hT
    clear hr hE h0 ha
    go_enter Tryd.func8, Tryd.ntmps8
    go_wp2_with fail
    refine hT.out.mono ?_
    rintro e w1 ⟨rfl, m, rfl⟩
    clear hT
    go_wp2
    go_ret2
    exact ⟨_, rfl, by rw [hsp.out]; exact Reads.nil _ _, below_drewN (Below.refl _ _)⟩
end Go.Proofs.YtddoibnagbbndaaDoor
