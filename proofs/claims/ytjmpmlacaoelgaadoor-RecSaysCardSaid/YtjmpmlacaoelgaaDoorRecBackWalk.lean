/-
  RecBack: what was packed is unpacked as it was.
-/
import Derived.Test.YtjmpmlacaoelgaaDoorRecLaw
import Derived.Test.YtjmpmlacaoelgaaDoorRec4
import Derived.Test.YtjmpmlacaoelgaaDoorSameLongs
import Derived.Test.YtjmpmlacaoelgaaDoorWireCutsWalk
namespace Go.Proofs.YtjmpmlacaoelgaaDoor
open Go.RowKit
set_option linter.unusedVariables false

theorem numC_enc (n : Int) (t : List Int) (h0 : -9223372036854775808 ≤ n) (h1 : n ≤ 9223372036854775807) : numC (enc (zz n).toNat ++ t) = .inl (n, (enc (zz n).toNat).length) := by
  have hz := zz_lo n
  have hz2 := zz_hi n h0 h1
  unfold numC
  rw [dec_enc0 _ _ (by omega)]
  simp only
  rw [Int.toNat_of_nonneg hz, uz_zz, if_pos ⟨h0, h1⟩]
theorem rdS_encs (l : List Int) (hr : ∀ x ∈ l, -9223372036854775808 ≤ x ∧ x ≤ 9223372036854775807) : ∀ k, k ≤ l.length → rdS (encs l) k = ⟨l.take k, (encs (l.take k)).length, none⟩
  | 0, _ => by simp [rdS, encs]
  | k + 1, h => by
    have ih := rdS_encs l hr k (by omega)
    have hx := hr _ (getD_mem l k (by omega))
    have hn : rdNext (encs l) (encs (l.take k)).length none = (l.getD k 0, (encs (l.take k)).length + (enc (zz (l.getD k 0)).toNat).length, none) := by
      unfold rdNext
      simp only
      rw [encs_split l k (by omega), numC_enc _ _ hx.1 hx.2]
    rw [rdS, ih]
    simp only [hn]
    rw [take_snoc_getD l k (by omega), encs_snoc, List.length_append]
theorem unp_encs (l : List Int) (hr : ∀ x ∈ l, -9223372036854775808 ≤ x ∧ x ≤ 9223372036854775807) : unp (encs l) l.length = .inl l := by
  unfold unp
  rw [rdS_encs l hr l.length (Nat.le_refl _)]
  simp
theorem unp_more (l : List Int) (hr : ∀ x ∈ l, -9223372036854775808 ≤ x ∧ x ≤ 9223372036854775807) : unp (encs l) (l.length + 1) = .inr (0, (encs l).length) := by
  have hn : rdNext (encs l) (encs l).length none = (0, (encs l).length, some 0) := by
    unfold rdNext
    simp only
    rw [List.drop_length]
    rfl
  have e : rdS (encs l) (l.length + 1) = ⟨l ++ [0], (encs l).length, some 0⟩ := by
    rw [rdS, rdS_encs l hr l.length (Nat.le_refl _)]
    simp only [List.take_length, hn]
  unfold unp
  rw [e]
theorem unp_less (l : List Int) (hr : ∀ x ∈ l, -9223372036854775808 ≤ x ∧ x ≤ 9223372036854775807) (h : 0 < l.length) : unp (encs l) (l.length - 1) = .inr (1, (encs (l.take (l.length - 1))).length) := by
  have h1 := encs_take_succ l (l.length - 1) (by omega)
  rw [show l.length - 1 + 1 = l.length by omega, List.take_length] at h1
  have h2 := enc_pos (zz (l.getD (l.length - 1) 0)).toNat
  unfold unp
  rw [rdS_encs l hr (l.length - 1) (by omega)]
  simp only
  rw [if_pos (by omega)]
theorem encs_take_le (l : List Int) (k : Nat) : (encs (l.take k)).length ≤ (encs l).length := by
  have : encs l = encs (l.take k) ++ encs (l.drop k) := by rw [← encs_append, List.take_append_drop]
  rw [this, List.length_append]; omega

theorem unpack_ok {xs : List Int} {N : Nat} {vs : List Int} (h : unp xs N = .inl vs) (A : Nat → Addr) (v : Value) (w : World) (hr : Reads .u8 w v xs) (hx : xs.length ≤ 1000000) (hb : ∀ x ∈ xs, 0 ≤ x ∧ x ≤ 255) (hN : N ≤ 64) (hE : ErrsOn [0, 1, 2] w A) :
    Calls Tryd.prog 16 #[v, .int .i64 (N : Int)] w fun e w' => ∃ v, e = .returned (.tuple #[v, .nilIface]) ∧ Reads .i64 w' v vs ∧ Below w.heap.size w w' := by
  refine (unpack_any A v xs N w hr hx hb hN hE).mono ?_
  rintro e w' ⟨h1, h2⟩
  rw [h] at h2
  obtain ⟨v, h3, h4⟩ := h2
  exact ⟨v, h3, h4, h1⟩
theorem unpack_bad {xs : List Int} {N c p : Nat} (h : unp xs N = .inr (c, p)) (A : Nat → Addr) (v : Value) (w : World) (hr : Reads .u8 w v xs) (hx : xs.length ≤ 1000000) (hb : ∀ x ∈ xs, 0 ≤ x ∧ x ≤ 255) (hN : N ≤ 64) (hE : ErrsOn [0, 1, 2] w A) :
    Calls Tryd.prog 16 #[v, .int .i64 (N : Int)] w fun e w' => ∃ ga, e = .returned (.tuple #[.slice none 0 0, .iface 69 (.pointer (some ⟨ga, 0, none⟩))]) ∧ AtIn w' ga p (A c) ∧ Below w.heap.size w w' := by
  refine (unpack_any A v xs N w hr hx hb hN hE).mono ?_
  rintro e w' ⟨h1, h2⟩
  rw [h] at h2
  obtain ⟨v, h3, h4⟩ := h2
  exact ⟨v, h3, h4, h1⟩
theorem AtIn.below {w w' : World} {ga : Nat} {p : Int} {a : Addr} (h : AtIn w ga p a) (hb : Below w.heap.size w w') : AtIn w' ga p a := by
  unfold AtIn at h ⊢
  rw [hb.block ga (Array.getElem?_eq_some_iff.1 h).1]; exact h
theorem sents_012 {w0 w : World} {A : Nat → Addr} (h : Sents w0 A) (hb : Below w0.heap.size w0 w) : ErrsOn [0, 1, 2] w A := (h.below hb (Nat.le_refl _)).on [0, 1, 2] (by simp)

set_option maxRecDepth 100000 in
set_option maxHeartbeats 6400000 in
theorem walk_recBack (v : Value) (l : List Int) (A : Nat → Addr) (w : World) (hr : Reads .i64 w v l) (hlr : ∀ x ∈ l, -9223372036854775808 ≤ x ∧ x ≤ 9223372036854775807) (hS : Sents w A) :
    Calls Tryd.prog 5 #[v] w fun e w' => e = .returned (.bool true) ∧ Below w.heap.size w w' := by
  have hr' := hidden hr
  have hlm : l.length ≤ 9223372036854775807 := by obtain ⟨_, _, _, _, e, _, h, _⟩ := hr; unfold maxLen at h; omega
  obtain ⟨a, c, rfl⟩ := reads_slice hr
  have hc := (reads_cap hr).1
  have hS' := hidden hS
  have hlr' := hidden hlr
  clear hr hlr hS
  by_cases h20 : 20 < l.length
  · have h20' : (20 : Int) < (l.length : Int) := by omega
    clear h20
    go_enter Tryd.func5, Tryd.ntmps5
    go_wp2_with fail
    refine (law9_first _).mono ?_
    rintro e w1 ⟨rfl, hb⟩
    go_wp2
    go_ret
    exact ⟨rfl, hb⟩
  · have h20' : ¬ (20 : Int) < (l.length : Int) := by omega
    have hl20 : l.length ≤ 20 := by omega
    have hlI : (l.length : Int) ≤ 20 := by omega
    clear h20
    by_cases h64 : (encs l).length ≤ 64
    · have hbyte := hidden (show ∀ x ∈ encs l, 0 ≤ x ∧ x ≤ 255 from encs_byte l)
      have h64' := hidden h64
      replace h64 : ((encs l).length : Int) ≤ 64 := by omega
      go_enter Tryd.func5, Tryd.ntmps5
      go_wp2_with fail
      refine (law9_first _).mono ?_
      rintro e w1 ⟨rfl, hb⟩
      have hb1 := hidden hb
      clear hb
      go_wp2_with fail
      refine (pack_ok _ l w1 (hr'.out.below hb1.out (Nat.le_refl _)) (by omega) hlr'.out h64'.out).mono ?_
      rintro e w2 ⟨v2, rfl, hown, hb⟩
      have hb2 := hidden (hb1.out.trans (hb.mono hb1.out.size))
      have hx2 := hidden (reads_of_own (k := .u8) hown)
      obtain ⟨a2, c2, hv⟩ := reads_slice hx2.out
      rw [hv] at hx2
      rw [hv]
      clear hb hv hown
      go_wp2_with fail
      refine (unpack_ok (unp_encs l hlr'.out) A _ w2 hx2.out (by have := h64'.out; omega) hbyte.out (by omega) (sents_012 hS'.out hb2.out)).mono ?_
      rintro e w3 ⟨v3, rfl, hy, hb⟩
      have hb3 := hidden (hb2.out.trans (hb.mono hb2.out.size))
      have hx3 := hidden (hx2.out.below hb (Nat.le_refl _))
      replace hy := hidden hy
      clear hb hx2
      go_wp2_with fail
      refine (unpack_bad (N := l.length + 1) (unp_more l hlr'.out) A _ w3 hx3.out (by have := h64'.out; omega) hbyte.out (by omega) (sents_012 hS'.out hb3.out)).mono ?_
      rintro e w4 ⟨ga, rfl, hat, hb⟩
      have hb4 := hidden (hb3.out.trans (hb.mono hb3.out.size))
      have hx4 := hidden (hx3.out.below hb (Nat.le_refl _))
      have hy4 := hidden (hy.out.below hb (Nat.le_refl _))
      replace hat := hidden hat
      clear hb hx3 hy
      go_wp2_with fail
      refine (sameLongs_any _ _ l l w4 hy4.out (hr'.out.below hb4.out (Nat.le_refl _)) (by omega)).mono ?_
      rintro e w5 ⟨rfl, m, rfl⟩
      have hb5 := hidden (below_drewN (m := m) hb4.out)
      have hat5 := hidden (show AtIn (w4.drewN m) ga ((encs l).length : Nat) (A 0) from hat.out)
      have hx5 := hidden (show Reads .u8 (w4.drewN m) (.slice a2 (encs l).length c2) (encs l) from hx4.out)
      clear hat hx4 hy4 hb4
      generalize w4.drewN m = w5 at *
      go_wp2_with fail
      refine (fault_placed _ _ _ (by decide)).mono ?_
      rintro e w6 ⟨rfl, hb⟩
      have hb6 := hidden (hb5.out.trans (hb.mono hb5.out.size))
      have hx6 := hidden (hx5.out.below hb (Nat.le_refl _))
      have hf := hidden (faultIs_at A 0 ga ((encs l).length : Nat) w6 (hS'.out.below hb6.out (Nat.le_refl _)) (by decide) (hat5.out.below hb))
      clear hb hx5 hb5 hat5
      go_wp2_with fail
      refine (same_any _ _ _ _ _ _ _ w6 hf.out).mono ?_
      rintro e w7 ⟨rfl, hb⟩
      have hb7 := hidden (hb6.out.trans (hb.mono hb6.out.size))
      have hx7 := hidden (hx6.out.below hb (Nat.le_refl _))
      clear hb hx6 hf hb6
      by_cases h0 : l.length = 0
      · have h0' : (l.length : Int) = 0 := by omega
        replace h0 := hidden h0
        go_wp2
        go_ret
        exact ⟨rfl, hb7.out⟩
      · have h0' : ((l.length : Int) == 0) = false := by rw [beq_eq_false_iff_ne]; omega
        have h0p : 1 ≤ l.length := by omega
        have hsub : ((l.length : Int) - 1) = ((l.length - 1 : Nat) : Int) := by omega
        have hcI : (l.length : Int) ≤ (c : Int) := by omega
        have hl1 := hidden (show l.length - 1 ≤ 20 by omega)
        have hlt := hidden (show 0 < l.length by omega)
        have hrt := hidden (reads_take hr'.out (m := l.length - 1) (by omega))
        replace h0 := hidden h0
        have hul := hidden (unp_less l hlr'.out hlt.out)
        have htl := hidden (show ∀ x ∈ l.take (l.length - 1), -9223372036854775808 ≤ x ∧ x ≤ 9223372036854775807 from fun x hx => hlr'.out x (List.mem_of_mem_take hx))
        have hte := hidden (Nat.le_trans (encs_take_le l (l.length - 1)) h64'.out)
        have htt := hidden (show (l.take (l.length - 1)).length ≤ 1000000 by rw [List.length_take]; omega)
        go_wp2_with fail
        generalize l.length - 1 = j at *
        refine (unpack_bad hul.out A _ w7 hx7.out (by have := h64'.out; omega) hbyte.out (by have := hl1.out; omega) (sents_012 hS'.out hb7.out)).mono ?_
        rintro e w8 ⟨gb, rfl, hat, hb⟩
        have hb8 := hidden (hb7.out.trans (hb.mono hb7.out.size))
        replace hat := hidden hat
        clear hb hx7
        go_wp2_with fail
        refine (pack_ok _ (l.take j) w8 (hrt.out.below hb8.out (Nat.le_refl _)) htt.out htl.out hte.out).mono ?_
        rintro e w9 ⟨v9, rfl, hown, hb⟩
        have hb9 := hidden (hb8.out.trans (hb.mono hb8.out.size))
        have hat9 := hidden (hat.out.below hb)
        have hx9 := hidden (reads_of_own (k := .u8) hown)
        obtain ⟨a9, c9, hv⟩ := reads_slice hx9.out
        rw [hv]
        clear hb hv hown hat hx9
        go_wp2_with fail
        refine (fault_placed _ _ _ (by decide)).mono ?_
        rintro e w10 ⟨rfl, hb⟩
        have hb10 := hidden (hb9.out.trans (hb.mono hb9.out.size))
        have hf := hidden (faultIs_at A 1 gb ((encs (l.take j)).length : Nat) w10 (hS'.out.below hb10.out (Nat.le_refl _)) (by decide) (hat9.out.below hb))
        clear hb
        go_wp2_with fail
        refine (same_any _ _ _ _ _ _ _ w10 hf.out).mono ?_
        rintro e w11 ⟨rfl, hb⟩
        have hb11 := hidden (hb10.out.trans (hb.mono hb10.out.size))
        clear hb
        go_wp2
        go_ret
        exact ⟨ret_bool (by simp), hb11.out⟩
    · have h64' := hidden (show 64 < (encs l).length by omega)
      clear h64
      go_enter Tryd.func5, Tryd.ntmps5
      go_wp2_with fail
      refine (law9_first _).mono ?_
      rintro e w1 ⟨rfl, hb⟩
      have hb1 := hidden hb
      clear hb
      go_wp2_with fail
      refine (pack_many A _ l w1 (hr'.out.below hb1.out (Nat.le_refl _)) (by omega) hlr'.out h64'.out ((hS'.out.below hb1.out (Nat.le_refl _)).on [4] (by simp))).mono ?_
      rintro e w2 ⟨rfl, hb⟩
      have hb2 := hidden (hb1.out.trans (hb.mono hb1.out.size))
      clear hb
      go_wp2
      go_ret
      exact ⟨rfl, hb2.out⟩
end Go.Proofs.YtjmpmlacaoelgaaDoor
