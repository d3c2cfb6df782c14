/-
  What the shares sum to; their order; twice the weights; one weight; weights that are alike. Pure.
-/
import Derived.Test.YtddoibnagbbndaaDoorShareMath
namespace Go.Proofs.YtddoibnagbbndaaDoor
open Go
set_option linter.unusedVariables false

section
variable {W : Int} {L : List Int}
theorem shL_len : (shL W L).length = L.length := ptL_len _ _ _
theorem shL_at {i : Nat} (h : i < L.length) : wF (shL W L) i = ptF W L (lfW W L).toNat i := ptL_at _ _ _ h
theorem lf_bd (h : ShOk W L) : 0 ≤ lfW W L ∧ (lfW W L).toNat ≤ L.length := by
  by_cases hS : 0 < smW L
  · have := h.left_bd hS; omega
  · have h1 := h.pos
    have h2 : smW L = 0 := by omega
    have : lfW W L = 0 := by
      unfold lfW
      rw [suF_same (g := fun _ => 0) fun i _ => by unfold flF; rw [h2, Int.ediv_zero], suF_const, h.fit h2]; simp
    omega
theorem sh_sums (h : ShOk W L) : smW (shL W L) = W := by
  unfold smW
  rw [shL_len, suF_same (g := fun i => flF W L i + (if decide (rkW W L i < (lfW W L).toNat) = true then 1 else 0)) fun i hi => by
    rw [shL_at hi]; unfold ptF; simp, suF_add]
  have h1 := lf_bd h
  have h2 := rk_count (R := reF W L) (n := L.length) (l := (lfW W L).toNat) h1.2
  unfold rkW
  rw [h2]
  have : ((lfW W L).toNat : Int) = lfW W L := by omega
  rw [this]
  unfold lfW
  omega
theorem sh_zeroF (h : ShOk W L) (hW : W = 0) (i : Nat) : ptF W L (lfW W L).toNat i = 0 := by
  have e1 : ∀ i, flF W L i = 0 := fun i => by unfold flF; rw [hW, Int.zero_mul, Int.zero_ediv]
  have e2 : lfW W L = 0 := by unfold lfW; rw [suF_same (g := fun _ => 0) fun i _ => e1 i, suF_const, hW]; simp
  unfold ptF
  rw [e1, e2]
  simp
theorem sh_order (h : ShOk W L) {i k : Nat} (hi : i < L.length) (hk : k < L.length) (ho : wF L k < wF L i ∨ (wF L i = wF L k ∧ i < k)) : ptF W L (lfW W L).toNat k ≤ ptF W L (lfW W L).toNat i := by
  by_cases hW : W = 0
  · rw [sh_zeroF h hW, sh_zeroF h hW]; exact Int.le_refl _
  · have hS : 0 < smW L := by
      have h1 := h.pos
      have h2 := h.fit
      by_cases q : smW L = 0
      · exact absurd (h2 q) hW
      · omega
    have hW0 := h.w.1
    obtain ⟨a1, a2, a3, a4, a5⟩ := h.fl hS hi
    obtain ⟨b1, b2, b3, b4, b5⟩ := h.fl hS hk
    have hw : wF L k ≤ wF L i := by omega
    have hm : W * wF L k ≤ W * wF L i := Int.mul_le_mul_of_nonneg_left hw hW0
    have hq : flF W L k ≤ flF W L i := Int.ediv_le_ediv hS hm
    unfold ptF
    by_cases he : flF W L k = flF W L i
    · have hl : LtR (reF W L) i k := by
        rw [he] at b5
        by_cases hr : reF W L k < reF W L i
        · exact .inl hr
        · have hrr : reF W L i = reF W L k := by omega
          rcases ho with q | q
          · have : W * wF L k < W * wF L i := Int.mul_lt_mul_of_pos_left q (by omega)
            omega
          · exact .inr ⟨hrr, q.2⟩
      have hr := rk_lt (R := reF W L) (n := L.length) hi hl
      unfold rkW
      rw [he]
      by_cases q : rk (reF W L) L.length k < (lfW W L).toNat
      · rw [if_pos q, if_pos (by omega)]; exact Int.le_refl _
      · rw [if_neg q]; split <;> omega
    · split <;> split <;> omega
theorem sh_low (h : ShOk W L) {i : Nat} (hi : i < L.length) : ptF W L (lfW W L).toNat i = flF W L i ∨ ptF W L (lfW W L).toNat i = flF W L i + 1 := by
  unfold ptF
  split
  · exact .inr rfl
  · exact .inl (by omega)
end

/-! Twice the weights. -/
theorem sh_twice {W : Int} {L M : List Int} (hl : M.length = L.length) (h2 : ∀ i, i < L.length → wF M i = 2 * wF L i) (hS : 0 < smW L) : shL W M = shL W L := by
  have hs : smW M = 2 * smW L := by
    unfold smW
    rw [hl, suF_same (g := fun i => 2 * wF L i) h2, suF_mul]
  have hf : ∀ i, i < L.length → flF W M i = flF W L i := fun i hi => by
    unfold flF
    rw [hs, h2 i hi, show W * (2 * wF L i) = 2 * (W * wF L i) by grind, Int.mul_ediv_mul_of_pos _ _ (by decide)]
  have hr : ∀ i, i < L.length → reF W M i = 2 * reF W L i := fun i hi => by
    unfold reF
    rw [hs, h2 i hi, show W * (2 * wF L i) = 2 * (W * wF L i) by grind, Int.mul_emod_mul_of_pos _ _ (by decide)]
  have hle : lfW W M = lfW W L := by unfold lfW; rw [hl, suF_same hf]
  unfold shL ptL
  rw [hle, hl]
  refine List.map_congr_left fun i hi => ?_
  rw [List.mem_range] at hi
  unfold ptF rkW
  rw [hf i hi, hl, rk_same (R' := reF W L) (fun a b ha hb => by unfold LtR; rw [hr a ha, hr b hb]; omega) hi]
theorem sh_one {W : Int} (h : am23 W) : shC W [7] = 0 ∧ shL W [7] = [W] := by
  have hs : smW [7] = 7 := by decide
  have hok : ShOk W [7] := ⟨by decide, h, fun i hi => by
    obtain rfl : i = 0 := by simp at hi; exact hi
    decide, by rw [hs]; decide, fun q => by rw [hs] at q; simp at q⟩
  refine ⟨shC_fine.2 hok, ?_⟩
  have hf : flF W [7] 0 = W := by
    unfold flF
    rw [hs, show wF [7] 0 = 7 from rfl, Int.mul_ediv_cancel _ (by decide)]
  have hl : lfW W [7] = 0 := by
    unfold lfW
    show W - (0 + flF W [7] 0) = 0
    rw [hf]; omega
  unfold shL ptL
  rw [hl]
  show [ptF W [7] 0 0] = [W]
  unfold ptF
  rw [hf, if_neg (by omega)]
  simp
theorem sh_even {W : Int} {n : Nat} (h : am23 W) (h1 : 0 < n) (hn : n ≤ 32) : shC W (List.replicate n 3) = 0 ∧ ∀ i, i < n → (shL W (List.replicate n 3)).getD i 0 = W / n + if (i : Int) < W % n then 1 else 0 := by
  have hlen : (List.replicate n (3 : Int)).length = n := List.length_replicate
  have hw : ∀ i, i < n → wF (List.replicate n 3) i = 3 := fun i hi => by
    unfold wF
    rw [List.getD_eq_getElem?_getD, List.getElem?_eq_getElem (by rw [hlen]; exact hi)]
    simp
  have hs : smW (List.replicate n 3) = 3 * n := by
    unfold smW
    rw [hlen, suF_same (g := fun _ => 3) hw, suF_const]
  have hok : ShOk W (List.replicate n 3) := ⟨by rw [hlen]; exact hn, h, fun i hi => by rw [hlen] at hi; rw [hw i hi]; decide, by rw [hs]; omega, fun q => by omega⟩
  have hf : ∀ i, i < n → flF W (List.replicate n 3) i = W / n := fun i hi => by
    unfold flF
    rw [hs, hw i hi, Int.mul_comm W 3, Int.mul_ediv_mul_of_pos _ _ (by decide)]
  have hr : ∀ i, i < n → reF W (List.replicate n 3) i = 3 * (W % n) := fun i hi => by
    unfold reF
    rw [hs, hw i hi, Int.mul_comm W 3, Int.mul_emod_mul_of_pos _ _ (by decide)]
  have hl : lfW W (List.replicate n 3) = W % n := by
    unfold lfW
    rw [hlen, suF_same (g := fun _ => W / n) hf, suF_const, Int.mul_comm]
    have := Int.mul_ediv_add_emod W n
    omega
  have hm := Int.emod_nonneg W (show (n : Int) ≠ 0 by omega)
  refine ⟨shC_fine.2 hok, fun i hi => ?_⟩
  rw [show (shL W (List.replicate n 3)).getD i 0 = wF (shL W (List.replicate n 3)) i from rfl, shL_at (by rw [hlen]; exact hi)]
  unfold ptF rkW
  rw [hf i hi, hl, hlen, rk_even (fun a b ha hb => by rw [hr a ha, hr b hb]) hi]
  by_cases q : (i : Int) < W % n
  · rw [if_pos q, if_pos (by omega)]
  · rw [if_neg q, if_neg (by omega)]
/-- how a weight is drawn. -/
def sv23 (v : Int) : Int := if v.tmod 1000000 < 0 then -v.tmod 1000000 else v.tmod 1000000
theorem sv_bd (v : Int) : 0 ≤ sv23 v ∧ sv23 v < 1000000 := by
  unfold sv23
  have h1 := Int.tmod_lt_of_pos v (show (0 : Int) < 1000000 by decide)
  have h2 := Int.tmod_lt_of_pos (-v) (show (0 : Int) < 1000000 by decide)
  rw [Int.neg_tmod] at h2
  split <;> omega
def aL23 (L : List Int) : List Int := L.map fun v => sv23 v + 1
def bL23 (L : List Int) : List Int := L.map fun v => 2 * sv23 v + 2
theorem aL_at {L : List Int} {i : Nat} (h : i < L.length) : wF (aL23 L) i = sv23 (wF L i) + 1 := by
  unfold wF aL23
  rw [List.getD_eq_getElem?_getD, List.getElem?_map, List.getElem?_eq_getElem h, List.getD_eq_getElem?_getD, List.getElem?_eq_getElem h]; rfl
theorem bL_at {L : List Int} {i : Nat} (h : i < L.length) : wF (bL23 L) i = 2 * sv23 (wF L i) + 2 := by
  unfold wF bL23
  rw [List.getD_eq_getElem?_getD, List.getElem?_map, List.getElem?_eq_getElem h, List.getD_eq_getElem?_getD, List.getElem?_eq_getElem h]; rfl
theorem sm_bd {L : List Int} {c : Int} (h1 : ∀ i, i < L.length → 1 ≤ wF L i ∧ wF L i < c) (h0 : 0 < L.length) : 0 < smW L ∧ smW L ≤ c * L.length := by
  have h2 : 0 ≤ wF L 0 := by have := (h1 0 h0).1; omega
  have h3 := suF_mono (f := wF L) (k := L.length) (fun i hi => by have := (h1 i hi).1; omega) 0 h0
  have h4 := suF_lt (f := wF L) (c := c) (k := L.length) fun i hi => (h1 i hi).2
  have h5 := (h1 0 h0).1
  unfold smW
  omega
theorem sh_scale {W : Int} {L : List Int} (hW : am23 W) (h0 : 0 < L.length) (hn : L.length ≤ 20) : shC W (aL23 L) = 0 ∧ shC W (bL23 L) = 0 ∧ shL W (bL23 L) = shL W (aL23 L) := by
  have la : (aL23 L).length = L.length := List.length_map _
  have lb : (bL23 L).length = L.length := List.length_map _
  have ba : ∀ i, i < (aL23 L).length → 1 ≤ wF (aL23 L) i ∧ wF (aL23 L) i < 3000000 := fun i hi => by
    rw [la] at hi; rw [aL_at hi]; have := sv_bd (wF L i); omega
  have bb : ∀ i, i < (bL23 L).length → 1 ≤ wF (bL23 L) i ∧ wF (bL23 L) i < 3000000 := fun i hi => by
    rw [lb] at hi; rw [bL_at hi]; have := sv_bd (wF L i); omega
  have sa := sm_bd ba (by omega)
  have sb := sm_bd bb (by omega)
  have oka : ShOk W (aL23 L) := ⟨by omega, hW, fun i hi => by have := ba i hi; unfold am23; omega, by omega, fun q => by omega⟩
  have okb : ShOk W (bL23 L) := ⟨by omega, hW, fun i hi => by have := bb i hi; unfold am23; omega, by omega, fun q => by omega⟩
  refine ⟨shC_fine.2 oka, shC_fine.2 okb, sh_twice (by omega) (fun i hi => ?_) sa.1⟩
  rw [la] at hi
  rw [aL_at hi, bL_at hi]; omega
end Go.Proofs.YtddoibnagbbndaaDoor
