import Derived.Test.YtceindinchchjaaDoorLaw
namespace Go.Proofs.YtceindinchchjaaDoor
open Go.RowKit

/-- the form's last byte, as if it were not the last one. -/
def longer (xs : List Int) : List Int := xs.set (xs.length - 1) (xs.getD (xs.length - 1) 0 + 128)
theorem enc_last (u : Nat) : 0 ≤ (enc u).getD ((enc u).length - 1) 0 ∧ (enc u).getD ((enc u).length - 1) 0 < 128 := by
  induction u using Nat.strongRecOn with
  | ind u ih =>
    by_cases h : u < 128
    · rw [enc_small u h]; simp; omega
    · rw [enc_big u h]
      have h1 := ih (u / 128) (by omega)
      have h2 := enc_pos (u / 128)
      have e : ((((u % 128 + 128 : Nat) : Int) :: enc (u / 128)).length - 1) = ((enc (u / 128)).length - 1) + 1 := by simp; omega
      rw [e, List.getD_cons_succ]
      exact h1
theorem longer_shape (u : Nat) : ∀ i a, dec i a (longer (enc u) ++ [0]) = .shape := by
  induction u using Nat.strongRecOn with
  | ind u ih =>
    intro i a
    by_cases h : u < 128
    · rw [enc_small u h]
      show dec i a [(u : Int) + 128, 0] = _
      rw [dec]
      split
      · rfl
      · rw [if_neg (by omega), dec, if_pos (by omega)]
    · have h2 := enc_pos (u / 128)
      have e : longer (enc u) = ((u % 128 + 128 : Nat) : Int) :: longer (enc (u / 128)) := by
        rw [enc_big u h]
        unfold longer
        have e : ((((u % 128 + 128 : Nat) : Int) :: enc (u / 128)).length - 1) = ((enc (u / 128)).length - 1) + 1 := by simp; omega
        rw [e, List.getD_cons_succ, List.set_cons_succ]
      rw [e, List.cons_append, dec]
      split
      · rfl
      · rw [if_neg (by omega)]
        exact ih (u / 128) (by omega) _ _
theorem forms_apart (a b : Int) (ha : -9223372036854775808 ≤ a) (ha1 : a ≤ 9223372036854775807) (hb : -9223372036854775808 ≤ b) (hb1 : b ≤ 9223372036854775807) (hne : a ≠ b)
    (k : Nat) (h : enc (zz a).toNat = (enc (zz b).toNat).take k) : False := by
  have h1 := dec_enc0 (zz a).toNat ((enc (zz b).toNat).drop k) (by have := zz_hi a ha ha1; omega)
  have h2 := dec_enc0 (zz b).toNat [] (by have := zz_hi b hb hb1; omega)
  rw [h, List.take_append_drop] at h1
  rw [List.append_nil, h1] at h2
  simp only [Dec.ok.injEq] at h2
  have h3 : zz a = zz b := by have := zz_lo a; have := zz_lo b; omega
  exact hne (by rw [← uz_zz a, h3, uz_zz])
theorem or128_small (x : Int) (h0 : 0 ≤ x) (h1 : x < 128) : bits .or .u8 x 128 = x + 128 := by
  obtain ⟨X, rfl⟩ := Int.eq_ofNat_of_zero_le h0
  have := or128 X
  have e : IntKind.u8.wrap (X : Int) = (X : Int) := by rw [IntKind.wrap_u8']; omega
  rw [e] at this
  rw [this]
  omega

set_option maxHeartbeats 3200000 in
theorem walk_wireForms (a b : Int) (A : Nat → Addr) (w : World) (ha0 : -9223372036854775808 ≤ a) (ha1 : a ≤ 9223372036854775807) (hb0 : -9223372036854775808 ≤ b) (hb1 : b ≤ 9223372036854775807) (hS : Sents w A) :
    Calls Tryd.prog 4 #[.int .i64 a, .int .i64 b] w fun e w' => e = .returned (.bool true) ∧ Below w.heap.size w w' := by
  have hS' := hidden hS
  have hXlen := enc_ten (zz a).toNat (by have := zz_hi a ha0 ha1; omega)
  have hYlen := enc_ten (zz b).toNat (by have := zz_hi b hb0 hb1; omega)
  have hX0 := enc_pos (zz a).toNat
  have hY0 := enc_pos (zz b).toNat
  have hXb := hidden (enc_byte (zz a).toNat)
  have hXl := hidden (enc_last (zz a).toNat)
  have hsh := hidden (longer_shape (zz a).toNat 0 0)
  have hap := hidden (fun h k => forms_apart a b ha0 ha1 hb0 hb1 h k)
  have hEa : [] ++ encs [a] = enc (zz a).toNat := by simp [encs]
  have hEb : [] ++ encs [b] = enc (zz b).toNat := by simp [encs]
  generalize enc (zz a).toNat = X at *
  generalize enc (zz b).toNat = Y at *
  have hEa' := hidden hEa
  have hEb' := hidden hEb
  clear hS hEa hEb
  go_enter Tryd.func4, Tryd.ntmps4
  go_wp2_with fail
  refine (law_first _).mono ?_
  rintro e w1 ⟨rfl, hbw1⟩
  have hbw1' := hidden hbw1
  clear hbw1
  have hl := hidden (reads_new (k := .i64) (w := w1) (e := 2) #[.int .i64 a] [a] 1 rfl rfl (by decide))
  go_wp2_with fail
  refine (put_any _ _ [] [a] _ (Reads.nil _ _) hl.out (by decide) (by simp) (by intro x hx; simp at hx; omega)).mono ?_
  rintro e w2 ⟨v2, rfl, hown2, hbw2⟩
  rw [hEa'.out] at hown2
  have hbw2' := hidden ((hbw1'.out.alloc hbw1'.out.size (.cells #[.int .i64 a] 2)).trans (hbw2.mono (by have := hbw1'.out.size; simp; omega)))
  have hr2 := hidden (reads_of_own (k := .u8) hown2)
  obtain ⟨b2, o2, c2, hv2⟩ := reads_some hr2.out hX0
  rw [hv2] at hr2
  rw [hv2]
  clear hv2 hown2 hbw2 hl
  have hl := hidden (reads_new (k := .i64) (w := w2) (e := 2) #[.int .i64 b] [b] 1 rfl rfl (by decide))
  go_wp2_with fail
  refine (put_any _ _ [] [b] _ (Reads.nil _ _) hl.out (by decide) (by simp) (by intro x hx; simp at hx; omega)).mono ?_
  rintro e w3 ⟨v3, rfl, hown3, hbw3⟩
  rw [hEb'.out] at hown3
  have hb23 := hidden (((Below.refl w2.heap.size w2).alloc (Nat.le_refl _) (.cells #[.int .i64 b] 2)).trans (hbw3.mono (by simp)))
  have hbw3' := hidden (hbw2'.out.trans (hb23.out.mono hbw2'.out.size))
  have hr3 := hidden (reads_of_own (k := .u8) hown3)
  have hr23 := hidden (hr2.out.below hb23.out (Nat.le_refl _))
  obtain ⟨b3, o3, c3, hv3⟩ := reads_some hr3.out hY0
  rw [hv3] at hr3
  rw [hv3]
  clear hv3 hown3 hbw3 hl hr2 hb23
  have hx0 : ((X.length : Int) == 0) = false := by rw [beq_eq_false_iff_ne]; omega
  have hy0 : ((Y.length : Int) == 0) = false := by rw [beq_eq_false_iff_ne]; omega
  have h255 := hidden (show ∀ x ∈ longer X ++ [0], 0 ≤ x ∧ x ≤ 255 by
    intro x hx
    rcases List.mem_append.1 hx with h | h
    · unfold longer at h
      rcases List.mem_or_eq_of_mem_set h with h | h
      · exact hXb.out x h
      · have := hXl.out; omega
    · simp at h; omega)
  have hlenL := hidden (show (longer X ++ [0]).length = X.length + 1 by simp [longer])
  have hset := hidden (show ∀ m, X.length = m + 1 → (cb X).set m (.int .u8 (bits .or .u8 (X.getD m 0) 128)) = cb (longer X) by
    intro m hm
    have hl := hXl.out
    unfold longer cb
    rw [hm] at hl ⊢
    simp only [Nat.add_sub_cancel] at hl ⊢
    rw [or128_small _ hl.1 hl.2, List.map_set])
  have hcase : (a = b) ∨ (a ≠ b ∧ Y.length < X.length) ∨ (a ≠ b ∧ X.length ≤ Y.length ∧ X ≠ Y.take X.length) := by
    by_cases h1 : a = b
    · exact .inl h1
    · by_cases h2 : Y.length < X.length
      · exact .inr (.inl ⟨h1, h2⟩)
      · exact .inr (.inr ⟨h1, by omega, fun e => hap.out h1 _ e⟩)
  clear hap hXb hXl hEa' hEb'
  rcases hcase with hab | ⟨hab, hlt⟩ | ⟨hab, hle, hXY⟩
  · have hab' : (a != b) = false := by rw [hab]; simp
    have hbz := hbw3'
    have hrz := hr23
    clear hab hr3 hbw3' hbw2' hbw1' hr23
    go_wp2_with fail
    refine (bytes_any _ X _ hrz.out (by omega)).mono ?_
    rintro e w4 ⟨v4, rfl, hown4, hb4⟩
    obtain ⟨g, c4, hv4, hgB⟩ := own_some hown4 hX0
    rw [hv4] at hown4
    rw [hv4]
    clear hv4
    have hbw4 := hidden (hbz.out.trans (hb4.mono hbz.out.size))
    have hb4s := hidden hb4.size
    have hgw : w.heap.size ≤ g := Nat.le_trans hbz.out.size hgB
    obtain ⟨m, hm⟩ : ∃ m, X.length = m + 1 := ⟨X.length - 1, by omega⟩
    have hcm : w4.cell? ⟨g, m, none⟩ = some (.int .u8 (X.getD m 0)) := by
      rw [hown4.cellAt m (by omega)]
      simp [cb, List.getD_eq_getElem?_getD, List.getElem?_eq_getElem (show m < X.length by omega)]
    have hfm : w4.frozen? ⟨g, m, none⟩ = false := hown4.frozenAt m
    have hst := hown4.stored m (.int .u8 (bits .or .u8 (X.getD m 0) 128))
    rw [hset.out m hm] at hst
    obtain ⟨hst1, hst2⟩ := hst
    have hbw5 := hidden (hbw4.out.grown hst2 hbw4.out.size (fun k hk => by cases hk; exact hgw))
    have hs5 := hidden (show w4.heap.size = (w4.setCell ⟨g, m, none⟩ (.int .u8 (bits .or .u8 (X.getD m 0) 128))).heap.size by simp [World.setCell])
    rw [hm] at hst1 hX0 ⊢
    have hst1' := hidden hst1
    have hm' : (m : Int) ≤ 100 := by omega
    clear hown4 hst1 hst2 hb4 hset
    generalize X.getD m 0 = y at *
    go_wp2_with (at_builtin; (refine wpList_app1' rfl _ _ 22 rfl 5 Tryd.underlying22 infoB rfl (by decide) _ _ _ _ rfl hst1'.out _ w4.heap.size rfl hs5.out rfl ?_ ?_ ?_))
    case _ => omega
    case _ => rw [← hs5.out]; exact Nat.le_trans hb4s.out (Nat.le_refl _)
    intro v5 w5 hown5 hb5
    have hb5' := hidden (hbw5.out.trans (hb5.mono hbz.out.size))
    rw [← cb_snoc] at hown5
    have hr5 := hidden (reads_of_own (k := .u8) hown5)
    clear hown5 hb5
    go_wp2_with fail
    refine (newReader_any _ (longer X ++ [0]) w5 hr5.out (by have := hlenL.out; omega)).mono ?_
    rintro e w6 ⟨gr, rfl, hR, hb6⟩
    have hb6' := hidden (hb5'.out.trans (hb6.mono hb5'.out.size))
    have hs5' := hidden hb5'.out.size
    have hR' := hidden hR
    clear hR hb6
    go_wp2_with fail
    refine (num_bad w5.heap.size gr 0 (longer X ++ [0]) _ _ (A 0) (A 1) (A 2) (A 1) w6 hR'.out (by have := hlenL.out; omega) h255.out (errs_of (hS'.out.below hb6'.out (Nat.le_refl _))) (by rw [List.drop_zero]; unfold numOf; rw [hsh.out])).mono ?_
    rintro e w7 ⟨rfl, hR7, hg7⟩
    have hb7' := hidden (below_grown hb6'.out hg7 hR'.out.1 hs5'.out)
    have hR7' := hidden hR7
    clear hg7 hR7
    go_wp2_with fail
    refine (err_some _ _ _ _ _ w7 hR7'.out).mono ?_
    rintro e w8 ⟨ga, rfl, hga, rfl⟩
    have hga' := hidden hga
    clear hga
    go_wp2_with fail
    refine (fault_placed _ _ _ (by decide)).mono ?_
    rintro e w8 ⟨rfl, hb8⟩
    have hb8' := hidden (hb7'.out.trans (hb8.mono hb7'.out.size))
    have hf := hidden (faultIs_at A 1 ga 0 w8 (hS'.out.below hb8'.out (Nat.le_refl _)) (by decide) (by
      unfold AtIn
      rw [hb8.block ga (Array.getElem?_eq_some_iff.1 hga'.out).1]; exact hga'.out))
    have hR8 := hidden (hR7'.out.same (below_all hb8))
    clear hb8
    go_wp2_with fail
    refine (same_any _ _ _ _ _ _ _ w8 hf.out).mono ?_
    rintro e w9 ⟨rfl, hb9⟩
    have hb9' := hidden (hb8'.out.trans (hb9.mono hb8'.out.size))
    have hR9 := hidden (hR8.out.same (below_all hb9))
    clear hb9
    go_wp2_with fail
    refine (at_any _ _ _ _ _ w9 hR9.out).mono ?_
    rintro e w10 ⟨rfl, rfl⟩
    go_wp2
    go_ret
    exact ⟨rfl, hb9'.out⟩
  · have hab' : (a != b) = true := by rw [bne_iff_ne]; exact hab
    have hlt' : ¬ (X.length : Int) ≤ (Y.length : Int) := by omega
    have hbz := hbw3'
    have hrz := hr23
    clear hab hlt hr3 hbw3' hbw2' hbw1' hr23
    go_wp2_with fail
    refine (bytes_any _ X _ hrz.out (by omega)).mono ?_
    rintro e w4 ⟨v4, rfl, hown4, hb4⟩
    obtain ⟨g, c4, hv4, hgB⟩ := own_some hown4 hX0
    rw [hv4] at hown4
    rw [hv4]
    clear hv4
    have hbw4 := hidden (hbz.out.trans (hb4.mono hbz.out.size))
    have hb4s := hidden hb4.size
    have hgw : w.heap.size ≤ g := Nat.le_trans hbz.out.size hgB
    obtain ⟨m, hm⟩ : ∃ m, X.length = m + 1 := ⟨X.length - 1, by omega⟩
    have hcm : w4.cell? ⟨g, m, none⟩ = some (.int .u8 (X.getD m 0)) := by
      rw [hown4.cellAt m (by omega)]
      simp [cb, List.getD_eq_getElem?_getD, List.getElem?_eq_getElem (show m < X.length by omega)]
    have hfm : w4.frozen? ⟨g, m, none⟩ = false := hown4.frozenAt m
    have hst := hown4.stored m (.int .u8 (bits .or .u8 (X.getD m 0) 128))
    rw [hset.out m hm] at hst
    obtain ⟨hst1, hst2⟩ := hst
    have hbw5 := hidden (hbw4.out.grown hst2 hbw4.out.size (fun k hk => by cases hk; exact hgw))
    have hs5 := hidden (show w4.heap.size = (w4.setCell ⟨g, m, none⟩ (.int .u8 (bits .or .u8 (X.getD m 0) 128))).heap.size by simp [World.setCell])
    rw [hm] at hst1 hX0 ⊢
    have hst1' := hidden hst1
    have hm' : (m : Int) ≤ 100 := by omega
    clear hown4 hst1 hst2 hb4 hset
    generalize X.getD m 0 = y at *
    go_wp2_with (at_builtin; (refine wpList_app1' rfl _ _ 22 rfl 5 Tryd.underlying22 infoB rfl (by decide) _ _ _ _ rfl hst1'.out _ w4.heap.size rfl hs5.out rfl ?_ ?_ ?_))
    case _ => omega
    case _ => rw [← hs5.out]; exact Nat.le_trans hb4s.out (Nat.le_refl _)
    intro v5 w5 hown5 hb5
    have hb5' := hidden (hbw5.out.trans (hb5.mono hbz.out.size))
    rw [← cb_snoc] at hown5
    have hr5 := hidden (reads_of_own (k := .u8) hown5)
    clear hown5 hb5
    go_wp2_with fail
    refine (newReader_any _ (longer X ++ [0]) w5 hr5.out (by have := hlenL.out; omega)).mono ?_
    rintro e w6 ⟨gr, rfl, hR, hb6⟩
    have hb6' := hidden (hb5'.out.trans (hb6.mono hb5'.out.size))
    have hs5' := hidden hb5'.out.size
    have hR' := hidden hR
    clear hR hb6
    go_wp2_with fail
    refine (num_bad w5.heap.size gr 0 (longer X ++ [0]) _ _ (A 0) (A 1) (A 2) (A 1) w6 hR'.out (by have := hlenL.out; omega) h255.out (errs_of (hS'.out.below hb6'.out (Nat.le_refl _))) (by rw [List.drop_zero]; unfold numOf; rw [hsh.out])).mono ?_
    rintro e w7 ⟨rfl, hR7, hg7⟩
    have hb7' := hidden (below_grown hb6'.out hg7 hR'.out.1 hs5'.out)
    have hR7' := hidden hR7
    clear hg7 hR7
    go_wp2_with fail
    refine (err_some _ _ _ _ _ w7 hR7'.out).mono ?_
    rintro e w8 ⟨ga, rfl, hga, rfl⟩
    have hga' := hidden hga
    clear hga
    go_wp2_with fail
    refine (fault_placed _ _ _ (by decide)).mono ?_
    rintro e w8 ⟨rfl, hb8⟩
    have hb8' := hidden (hb7'.out.trans (hb8.mono hb7'.out.size))
    have hf := hidden (faultIs_at A 1 ga 0 w8 (hS'.out.below hb8'.out (Nat.le_refl _)) (by decide) (by
      unfold AtIn
      rw [hb8.block ga (Array.getElem?_eq_some_iff.1 hga'.out).1]; exact hga'.out))
    have hR8 := hidden (hR7'.out.same (below_all hb8))
    clear hb8
    go_wp2_with fail
    refine (same_any _ _ _ _ _ _ _ w8 hf.out).mono ?_
    rintro e w9 ⟨rfl, hb9⟩
    have hb9' := hidden (hb8'.out.trans (hb9.mono hb8'.out.size))
    have hR9 := hidden (hR8.out.same (below_all hb9))
    clear hb9
    go_wp2_with fail
    refine (at_any _ _ _ _ _ w9 hR9.out).mono ?_
    rintro e w10 ⟨rfl, rfl⟩
    go_wp2
    go_ret
    exact ⟨rfl, hb9'.out⟩
  · have hab' : (a != b) = true := by rw [bne_iff_ne]; exact hab
    have hle' : (X.length : Int) ≤ (Y.length : Int) := by omega
    have hrt := hidden (reads_take hr3.out hle)
    have hc3 : X.length ≤ c3 := by
      obtain ⟨_, _, _, e, _, h2, _⟩ := hrt.out
      simp only [Value.slice.injEq] at e
      omega
    have hfin := hidden (show decide (X = Y.take X.length) = false by rw [decide_eq_false_iff_not]; exact hXY)
    clear hab hle hXY hr3 hbw2' hbw1'
    go_wp2_with fail
    refine (sameBytes_any _ _ X (Y.take X.length) _ hr23.out hrt.out (by omega)).mono ?_
    rintro e wz ⟨rfl, mz, rfl⟩
    rw [hfin.out]
    have hbz := hidden (below_drewN (m := mz) hbw3'.out)
    have hrz := hidden (show Reads .u8 (w3.drewN mz) (.slice (some ⟨b2, o2, none⟩) X.length c2) X from hr23.out)
    clear hbw3' hr23 hrt hfin hc3
    go_wp2_with fail
    refine (bytes_any _ X _ hrz.out (by omega)).mono ?_
    rintro e w4 ⟨v4, rfl, hown4, hb4⟩
    obtain ⟨g, c4, hv4, hgB⟩ := own_some hown4 hX0
    rw [hv4] at hown4
    rw [hv4]
    clear hv4
    have hbw4 := hidden (hbz.out.trans (hb4.mono hbz.out.size))
    have hb4s := hidden hb4.size
    have hgw : w.heap.size ≤ g := Nat.le_trans hbz.out.size hgB
    obtain ⟨m, hm⟩ : ∃ m, X.length = m + 1 := ⟨X.length - 1, by omega⟩
    have hcm : w4.cell? ⟨g, m, none⟩ = some (.int .u8 (X.getD m 0)) := by
      rw [hown4.cellAt m (by omega)]
      simp [cb, List.getD_eq_getElem?_getD, List.getElem?_eq_getElem (show m < X.length by omega)]
    have hfm : w4.frozen? ⟨g, m, none⟩ = false := hown4.frozenAt m
    have hst := hown4.stored m (.int .u8 (bits .or .u8 (X.getD m 0) 128))
    rw [hset.out m hm] at hst
    obtain ⟨hst1, hst2⟩ := hst
    have hbw5 := hidden (hbw4.out.grown hst2 hbw4.out.size (fun k hk => by cases hk; exact hgw))
    have hs5 := hidden (show w4.heap.size = (w4.setCell ⟨g, m, none⟩ (.int .u8 (bits .or .u8 (X.getD m 0) 128))).heap.size by simp [World.setCell])
    rw [hm] at hst1 hX0 ⊢
    have hst1' := hidden hst1
    have hm' : (m : Int) ≤ 100 := by omega
    clear hown4 hst1 hst2 hb4 hset
    generalize X.getD m 0 = y at *
    go_wp2_with (at_builtin; (refine wpList_app1' rfl _ _ 22 rfl 5 Tryd.underlying22 infoB rfl (by decide) _ _ _ _ rfl hst1'.out _ w4.heap.size rfl hs5.out rfl ?_ ?_ ?_))
    case _ => omega
    case _ => rw [← hs5.out]; exact Nat.le_trans hb4s.out (Nat.le_refl _)
    intro v5 w5 hown5 hb5
    have hb5' := hidden (hbw5.out.trans (hb5.mono hbz.out.size))
    rw [← cb_snoc] at hown5
    have hr5 := hidden (reads_of_own (k := .u8) hown5)
    clear hown5 hb5
    go_wp2_with fail
    refine (newReader_any _ (longer X ++ [0]) w5 hr5.out (by have := hlenL.out; omega)).mono ?_
    rintro e w6 ⟨gr, rfl, hR, hb6⟩
    have hb6' := hidden (hb5'.out.trans (hb6.mono hb5'.out.size))
    have hs5' := hidden hb5'.out.size
    have hR' := hidden hR
    clear hR hb6
    go_wp2_with fail
    refine (num_bad w5.heap.size gr 0 (longer X ++ [0]) _ _ (A 0) (A 1) (A 2) (A 1) w6 hR'.out (by have := hlenL.out; omega) h255.out (errs_of (hS'.out.below hb6'.out (Nat.le_refl _))) (by rw [List.drop_zero]; unfold numOf; rw [hsh.out])).mono ?_
    rintro e w7 ⟨rfl, hR7, hg7⟩
    have hb7' := hidden (below_grown hb6'.out hg7 hR'.out.1 hs5'.out)
    have hR7' := hidden hR7
    clear hg7 hR7
    go_wp2_with fail
    refine (err_some _ _ _ _ _ w7 hR7'.out).mono ?_
    rintro e w8 ⟨ga, rfl, hga, rfl⟩
    have hga' := hidden hga
    clear hga
    go_wp2_with fail
    refine (fault_placed _ _ _ (by decide)).mono ?_
    rintro e w8 ⟨rfl, hb8⟩
    have hb8' := hidden (hb7'.out.trans (hb8.mono hb7'.out.size))
    have hf := hidden (faultIs_at A 1 ga 0 w8 (hS'.out.below hb8'.out (Nat.le_refl _)) (by decide) (by
      unfold AtIn
      rw [hb8.block ga (Array.getElem?_eq_some_iff.1 hga'.out).1]; exact hga'.out))
    have hR8 := hidden (hR7'.out.same (below_all hb8))
    clear hb8
    go_wp2_with fail
    refine (same_any _ _ _ _ _ _ _ w8 hf.out).mono ?_
    rintro e w9 ⟨rfl, hb9⟩
    have hb9' := hidden (hb8'.out.trans (hb9.mono hb8'.out.size))
    have hR9 := hidden (hR8.out.same (below_all hb9))
    clear hb9
    go_wp2_with fail
    refine (at_any _ _ _ _ _ w9 hR9.out).mono ?_
    rintro e w10 ⟨rfl, rfl⟩
    go_wp2
    go_ret
    exact ⟨rfl, hb9'.out⟩
end Go.Proofs.YtceindinchchjaaDoor
