import Derived.Test.YtceindinchchjaaDoorLaw
namespace Go.Proofs.YtceindinchchjaaDoor
open Go.RowKit

theorem dec_prefix : ∀ (L u i a j : Nat), (enc u).length = L → a + u * 128 ^ i ≤ 18446744073709551615 → i + L ≤ 10 → j < L → dec i a ((enc u).take j) = .fin := by
  intro L
  induction L with
  | zero => intro u i a j hL; have := enc_pos u; omega
  | succ L ih =>
    intro u i a j hL hb hi hj
    match j with
    | 0 => simp [dec]
    | j + 1 =>
      by_cases hs : u < 128
      · rw [enc_small u hs] at hL
        simp at hL
        omega
      · rw [enc_big u hs] at hL ⊢
        simp only [List.length_cons, List.take_succ_cons] at hL ⊢
        have h9 : i ≠ 9 := by
          intro h9; subst h9
          have e : (128 : Nat) ^ 9 = 9223372036854775808 := by decide
          rw [e] at hb
          omega
        rw [dec, if_neg (by omega), if_neg (by omega), Int.toNat_natCast]
        have e1 : (u % 128 + 128) % 128 = u % 128 := by omega
        have e2 : a + u % 128 * 128 ^ i + u / 128 * 128 ^ (i + 1) = a + u * 128 ^ i := by
          have : u * 128 ^ i = (128 * (u / 128) + u % 128) * 128 ^ i := by rw [Nat.div_add_mod]
          rw [this, Nat.pow_succ, Nat.add_mul, Nat.mul_comm 128 (u / 128), Nat.mul_assoc, Nat.mul_comm 128 (128 ^ i)]
          omega
        rw [e1]
        exact ih (u / 128) (i + 1) _ j (by omega) (by rw [e2]; exact hb) (by omega) (by omega)

theorem getD_mem (l : List Int) (i : Nat) (h : i < l.length) : l.getD i 0 ∈ l := by
  rw [List.getD_eq_getElem?_getD, List.getElem?_eq_getElem h]; exact List.getElem_mem h
theorem encs_split (l : List Int) (i : Nat) (h : i < l.length) : (encs l).drop (encs (l.take i)).length = enc (zz (l.getD i 0)).toNat ++ encs (l.drop (i + 1)) := by
  have e : l = l.take i ++ (l.getD i 0 :: l.drop (i + 1)) := by
    rw [List.getD_eq_getElem?_getD, List.getElem?_eq_getElem h]
    simp [← List.drop_eq_getElem_cons h]
  rw [show encs l = encs (l.take i) ++ encs (l.getD i 0 :: l.drop (i + 1)) by rw [← encs_append, ← e], List.drop_left, encs_cons]
theorem encs_take_succ (l : List Int) (i : Nat) (h : i < l.length) : (encs (l.take (i + 1))).length = (encs (l.take i)).length + (enc (zz (l.getD i 0)).toNat).length := by
  rw [take_snoc_getD l i h, encs_snoc, List.length_append]

/-- the i-th number of those that were cut off at k: whole, or ended too early. -/
theorem cut_num (aE aS aR : Addr) (l : List Int) (i k : Nat) (h : i < l.length) (hr : ∀ n ∈ l, -9223372036854775808 ≤ n ∧ n ≤ 9223372036854775807) :
    numOf aE aS aR (((encs l).take k).drop (encs (l.take i)).length) (-9223372036854775808) 9223372036854775807 =
      if (encs (l.take (i + 1))).length ≤ k then .inl (l.getD i 0, (enc (zz (l.getD i 0)).toNat).length) else .inr aE := by
  have hx := hr _ (getD_mem l i h)
  have hz := zz_hi _ hx.1 hx.2
  have hz0 := zz_lo (l.getD i 0)
  rw [List.drop_take, encs_split l i h, encs_take_succ l i h]
  generalize l.getD i 0 = x at *
  split
  · rename_i hk
    rw [List.take_append, List.take_of_length_le (by omega), numOf_enc _ _ _ _ _ _ _ hx.1 hx.2, if_pos hx]
  · rename_i hk
    rw [List.take_append_of_le_length (by omega)]
    unfold numOf
    rw [dec_prefix _ (zz x).toNat 0 0 _ rfl (by simp; omega) (by have := enc_ten (zz x).toNat (by omega); omega) (by have := enc_pos (zz x).toNat; omega)]

def CutsRel (w : World) (B g : Nat) (l : List Int) (k : Nat) (p i : Value) (wr : World) : Prop :=
  ∃ j : Nat, i = .int .i64 (j : Int) ∧ j ≤ l.length ∧ p = .int .i64 ((encs (l.take j)).length : Int) ∧ (encs (l.take j)).length ≤ k ∧ Rdr wr B g ((encs l).take k) (encs (l.take j)).length none ∧ Below w.heap.size w wr

set_option maxHeartbeats 3200000 in
theorem walk_wireCuts (v : Value) (l : List Int) (cut : Int) (A : Nat → Addr) (w : World) (hr : Reads .i64 w v l) (hlr : ∀ x ∈ l, -9223372036854775808 ≤ x ∧ x ≤ 9223372036854775807)
    (hc0 : -9223372036854775808 ≤ cut) (hc1 : cut ≤ 9223372036854775807) (hS : Sents w A) :
    Calls Tryd.prog 6 #[v, .int .i64 cut] w fun e w' => e = .returned (.bool true) ∧ Below w.heap.size w w' := by
  have hr' := hidden hr
  obtain ⟨al, ll, cl, rfl, el, hlc, hlm, hln, hlx⟩ := hr
  subst el
  unfold maxLen at hlm
  clear hln hlx
  have hS' := hidden hS
  have hlr' := hidden hlr
  clear hS hlr
  by_cases h20 : 20 < l.length
  · have h20' : (20 : Int) < (l.length : Int) := by omega
    clear h20
    go_enter Tryd.func6, Tryd.ntmps6
    go_wp2_with fail
    refine (law_first _).mono ?_
    rintro e w1 ⟨rfl, hb⟩
    go_wp2
    go_ret
    exact ⟨rfl, hb⟩
  · have h20' : ¬ (20 : Int) < (l.length : Int) := by omega
    have hel := encs_len l hlr'.out
    have heb := hidden (encs_byte l)
    have hEl : ((encs l).length : Int) ≤ 200 := by omega
    clear h20
    go_enter Tryd.func6, Tryd.ntmps6
    go_wp2_with fail
    refine (law_first _).mono ?_
    rintro e w1 ⟨rfl, hbw1⟩
    have hbw1' := hidden hbw1
    clear hbw1
    go_wp2_with fail
    refine (put_any _ _ [] l _ (Reads.nil _ _) (hr'.out.below hbw1'.out (Nat.le_refl _)) (by decide) (by omega) hlr'.out).mono ?_
    rintro e w2 ⟨v2, rfl, hown2, hbw2⟩
    rw [List.nil_append] at hown2
    have hbw2' := hidden (hbw1'.out.trans (hbw2.mono hbw1'.out.size))
    have hr2 := hidden (reads_of_own (k := .u8) hown2)
    obtain ⟨a2, c2, hv2⟩ := reads_slice hr2.out
    rw [hv2] at hr2
    rw [hv2]
    clear hv2 hown2 hbw2
    generalize hE : (encs l).length = E at *
    have hE' := hidden hE
    clear hE
    have hE0 : (0 : Int) ≤ (E : Int) := by omega
    go_wp2_with fail
    refine (number_any cut ((E : Int) + 1) w2 hc0 hc1 (by omega) (by omega)).mono ?_
    rintro e w3 ⟨rfl, rfl⟩
    obtain ⟨k, hk⟩ : ∃ k : Nat, cut % ((E : Int) + 1) = (k : Int) := ⟨(cut % ((E : Int) + 1)).toNat, by have := Int.emod_nonneg cut (show (E : Int) + 1 ≠ 0 by omega); omega⟩
    have hkE : k ≤ E := by have := Int.emod_lt_of_pos cut (show 0 < (E : Int) + 1 by omega); omega
    rw [hk]
    clear hk
    have hrk := hidden (reads_take hr2.out hkE)
    have hc2 : E ≤ c2 := by
      obtain ⟨_, _, _, e, _, h2, _⟩ := hr2.out
      simp only [Value.slice.injEq] at e
      omega
    go_wp2_with fail
    refine (newReader_any _ ((encs l).take k) w2 hrk.out (by rw [List.length_take]; omega)).mono ?_
    rintro e w3 ⟨g, rfl, hR, hb3⟩
    have hb3' := hidden (hbw2'.out.trans (hb3.mono hbw2'.out.size))
    have hR' := hidden hR
    have hs2 := hidden hbw2'.out.size
    have hxl := hidden (show ((encs l).take k).length = k by rw [List.length_take, hE'.out]; omega)
    have hxb := hidden (show ∀ x ∈ (encs l).take k, 0 ≤ x ∧ x ≤ 255 from fun x hx => heb.out x (List.mem_of_mem_take hx))
    clear hR hb3 hrk hc2 hr2
    go_wp2_with fail
    go_loopw [9, 10] (fun p i wr => CutsRel w w2.heap.size g l k p i wr) (fun _ i _ => l.length - (intOf i).toNat)
    case atStart => exact ⟨0, rfl, Nat.zero_le _, rfl, Nat.zero_le _, hR'.out, hb3'.out⟩
    case round =>
      obtain ⟨j, rfl, hj, rfl, hpk, hRj, hbj⟩ := hrel
      have hRj' := hidden hRj
      have hbj' := hidden hbj
      clear hRj hbj
      generalize hp : (encs (l.take j)).length = p at *
      have hp' := hidden hp
      clear hp
      by_cases hlt : j < l.length
      · have hlt' : (j : Int) < (l.length : Int) := by omega
        have hcl : (j : Int) + 1 ≤ (cl : Int) := by omega
        have hrj := hidden (reads_take (hr'.out.below hbj'.out (Nat.le_refl _)) (show j + 1 ≤ l.length by omega))
        obtain ⟨bl, ol, rfl, hcell0⟩ := (hr'.out.below hbj'.out (Nat.le_refl _)).cell j hlt
        clear hcell0
        have hcut := hidden (cut_num (A 0) (A 1) (A 2) l j k hlt hlr'.out)
        have hnew := hidden (encs_take_succ l j hlt)
        have hxr := hidden (hlr'.out _ (getD_mem l j hlt))
        go_wp2_with fail
        refine (put_any _ _ [] (l.take (j + 1)) _ (Reads.nil _ _) hrj.out (by decide) (by rw [List.length_take]; omega) (fun x hx => hlr'.out x (List.mem_of_mem_take hx))).mono ?_
        rintro e w4 ⟨v4, rfl, hown4, hb4⟩
        rw [List.nil_append] at hown4
        have hb4' := hidden (hbj'.out.trans (hb4.mono hbj'.out.size))
        have hR4 := hidden (hRj'.out.same (below_all hb4))
        have hr4 := hidden (reads_of_own (k := .u8) hown4)
        obtain ⟨a4, c4, hv4⟩ := reads_slice hr4.out
        rw [hv4]
        clear hv4 hown4 hb4 hr4 hrj
        generalize hx : l.getD j 0 = x at *
        generalize (enc (zz x).toNat).length = L at *
        generalize hq : (encs (l.take (j + 1))).length = q at *
        rw [hp'.out] at hcut hnew
        have hxr0 := hxr.out
        have hx' := hidden hx
        have hq' := hidden hq
        clear hx hq
        have hpk' : (p : Int) ≤ (k : Int) := by omega
        by_cases hqk : q ≤ k
        · have hqk' : ¬ (k : Int) < (q : Int) := by omega
          go_wp2_with fail
          refine (num_good w2.heap.size g p L ((encs l).take k) _ _ x (A 0) (A 1) (A 2) w4 hR4.out (by have := hxl.out; omega) hxb.out (errs_of (hS'.out.below hb4'.out (Nat.le_refl _))) (by rw [hcut.out, if_pos hqk])).mono ?_
          rintro e w5 ⟨rfl, hR5, hg5⟩
          have hb5' := hidden (below_grown hb4'.out hg5 hR'.out.1 hs2.out)
          have hcx : w5.cell? ⟨bl, ol + j, none⟩ = some (.int .i64 x) := by
            obtain ⟨b, o, e1, e2⟩ := (hr'.out.below hb5'.out (Nat.le_refl _)).cell j hlt
            simp only [Option.some.injEq, Addr.mk.injEq, and_true] at e1
            obtain ⟨rfl, rfl⟩ := e1
            rw [hx'.out] at e2
            exact e2
          rw [← hnew.out] at hR5
          have hR5' := hidden hR5
          clear hg5 hR5
          go_wp2
          go_roundw
          case rel => exact ⟨j + 1, by go_num, hlt, by rw [hq'.out], by rw [hq'.out]; exact hqk, by rw [hq'.out]; exact hR5'.out, hb5'.out⟩
          case measure => simp [intOf]; omega
        · have hqk' : (k : Int) < (q : Int) := by omega
          go_wp2_with fail
          refine (num_bad w2.heap.size g p ((encs l).take k) _ _ (A 0) (A 1) (A 2) (A 0) w4 hR4.out (by have := hxl.out; omega) hxb.out (errs_of (hS'.out.below hb4'.out (Nat.le_refl _))) (by rw [hcut.out, if_neg hqk])).mono ?_
          rintro e w5 ⟨rfl, hR5, hg5⟩
          have hb5' := hidden (below_grown hb4'.out hg5 hR'.out.1 hs2.out)
          have hR5' := hidden hR5
          clear hg5 hR5
          go_wp2_with fail
          refine (at_any _ _ _ _ _ w5 hR5'.out).mono ?_
          rintro e w6 ⟨rfl, rfl⟩
          go_wp2_with fail
          refine (err_some _ _ _ _ _ w5 hR5'.out).mono ?_
          rintro e w6 ⟨ga, rfl, hga, rfl⟩
          have hga' := hidden hga
          clear hga
          go_wp2_with fail
          refine (fault_placed _ _ _ (by decide)).mono ?_
          rintro e w8 ⟨rfl, hb8⟩
          have hb8' := hidden (hb5'.out.trans (hb8.mono hb5'.out.size))
          have hf := hidden (faultIs_at A 0 ga p w8 (hS'.out.below hb8'.out (Nat.le_refl _)) (by decide) (by
            unfold AtIn
            rw [hb8.block ga (Array.getElem?_eq_some_iff.1 hga'.out).1]; exact hga'.out))
          clear hb8
          go_wp2_with fail
          refine (same_any _ _ _ _ _ _ _ w8 hf.out).mono ?_
          rintro e w9 ⟨rfl, hb9⟩
          have hb9' := hidden (hb8'.out.trans (hb9.mono hb8'.out.size))
          clear hb9
          go_wp2
          go_ret
          exact ⟨by simp, hb9'.out⟩
      · have hlt' : ¬ (j : Int) < (l.length : Int) := by omega
        have hjl : j = l.length := by omega
        have hpE : p = E := by rw [← hp'.out, ← hE'.out, hjl, List.take_length]
        have hkp : ((p : Int) == (k : Int)) = true := by rw [beq_iff_eq]; omega
        clear hpE hjl hlt
        go_wp2_with fail
        refine (err_none _ _ _ _ wr hRj'.out).mono ?_
        rintro e w6 ⟨rfl, rfl⟩
        go_wp2_with fail
        refine (at_any _ _ _ _ _ wr hRj'.out).mono ?_
        rintro e w6 ⟨rfl, rfl⟩
        go_wp2
        go_ret
        exact ⟨rfl, hbj'.out⟩
end Go.Proofs.YtceindinchchjaaDoor
