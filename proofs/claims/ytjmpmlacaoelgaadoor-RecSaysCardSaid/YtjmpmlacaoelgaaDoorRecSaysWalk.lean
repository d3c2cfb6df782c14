/-
  RecSays: the chapter's whole answer: keys, places, packing, unpacking.
-/
import Derived.Test.YtjmpmlacaoelgaaDoorRecRef
import Derived.Test.YtjmpmlacaoelgaaDoorRecBackWalk
import Derived.Test.YtjmpmlacaoelgaaDoorRecRangesWalk
import Derived.Test.YtjmpmlacaoelgaaDoorWirePutsWalk
namespace Go.Proofs.YtjmpmlacaoelgaaDoor
open Go.RowKit
set_option linter.unusedVariables false

/-- the key's error's number, its bytes. -/
def kC (p a b : Int) : Int := if 0 ≤ p ∧ p ≤ 255 ∧ 0 ≤ a ∧ a ≤ 1099511627775 ∧ 0 ≤ b ∧ b ≤ 1099511627775 then 0 else 103
def kB (p a b : Int) : List Int := if 0 ≤ p ∧ p ≤ 255 ∧ 0 ≤ a ∧ a ≤ 1099511627775 ∧ 0 ≤ b ∧ b ≤ 1099511627775 then keyB p a b else []
theorem kC_code (p a b : Int) : codeOk (kC p a b) := by unfold kC codeOk; split <;> omega
theorem kB_len (p a b : Int) : (kB p a b).length ≤ 1000 := by
  unfold kB; split
  · rw [keyB_len]; decide
  · simp
theorem key_all (A : Nat → Addr) (p a b : Int) (w : World) (hE : ErrsOn [2] w A) : Calls Tryd.prog 8 #[plV p a b] w fun e w' => ∃ v, e = .returned (.tuple #[v, errOf A (kC p a b)]) ∧ Reads .u8 w' v (kB p a b) ∧ Below w.heap.size w w' := by
  by_cases h : keyOk p a b
  · rw [show kC p a b = 0 from if_pos h, show kB p a b = keyB p a b from if_pos h]
    refine (key_yes p a b w h).mono ?_
    rintro e w' ⟨g, rfl, _, hB, hb⟩
    exact ⟨_, rfl, reads_block hB (keyB_len p a b) (by decide), hb⟩
  · rw [show kC p a b = 103 from if_neg h, show kB p a b = [] from if_neg h]
    refine (key_no A p a b w h hE).mono ?_
    rintro e w' ⟨rfl, hb⟩
    exact ⟨_, rfl, Reads.nil _ _, hb⟩
theorem refKey_all (p a b : Int) (w : World) : Calls Tryd.prog 9 #[.int .i64 p, .int .i64 a, .int .i64 b] w fun e w' => ∃ v, e = .returned (.tuple #[v, .int .i64 (kC p a b)]) ∧ Reads .u8 w' v (kB p a b) ∧ Below w.heap.size w w' := by
  by_cases h : keyOk p a b
  · rw [show kC p a b = 0 from if_pos h, show kB p a b = keyB p a b from if_pos h]
    exact refKey_yes p a b w h
  · rw [show kC p a b = 103 from if_neg h, show kB p a b = [] from if_neg h]
    refine (refKey_no p a b w h).mono ?_
    rintro e w' ⟨rfl, rfl⟩
    exact ⟨_, rfl, Reads.nil _ _, Below.refl _ _⟩
def rC (xs : List Int) : Int := if xs.length < 11 then 101 else if 11 < xs.length then 102 else 0
def rV (xs : List Int) : Int × Int × Int := if xs.length = 11 then (unbe (xs.take 1), unbe (xs.tail.take 5), unbe (xs.drop 6)) else (0, 0, 0)
theorem rC_code (xs : List Int) : codeOk (rC xs) := by unfold rC codeOk; split <;> (try split) <;> omega
theorem read_all (A : Nat → Addr) (v : Value) (xs : List Int) (w : World) (hr : Reads .u8 w v xs) (hb : ∀ x ∈ xs, 0 ≤ x ∧ x ≤ 255) (hE : ErrsOn [0, 1] w A) :
    Calls Tryd.prog 12 #[v] w fun e w' => e = .returned (.tuple #[plV (rV xs).1 (rV xs).2.1 (rV xs).2.2, errOf A (rC xs)]) ∧ Below w.heap.size w w' := by
  rcases Nat.lt_trichotomy xs.length 11 with h | h | h
  · rw [show rV xs = (0, 0, 0) from if_neg (by omega), show rC xs = 101 from if_pos h]
    exact read_end A v xs w hr (hE.sub (by simp)) h
  · rw [show rV xs = _ from if_pos h, show rC xs = 0 by unfold rC; rw [if_neg (by omega), if_neg (by omega)]]
    exact read_ok v xs w hr hb h
  · rw [show rV xs = (0, 0, 0) from if_neg (by omega), show rC xs = 102 by unfold rC; rw [if_neg (by omega), if_pos h]]
    exact read_shape A v xs w hr (hE.sub (by simp)) h
theorem refRead_all (v : Value) (xs : List Int) (w : World) (hr : Reads .u8 w v xs) (hb : ∀ x ∈ xs, 0 ≤ x ∧ x ≤ 255) :
    Calls Tryd.prog 13 #[v] w fun e w' => e = .returned (.tuple #[.int .i64 (rV xs).1, .int .i64 (rV xs).2.1, .int .i64 (rV xs).2.2, .int .i64 (rC xs)]) ∧ w = w' := by
  rcases Nat.lt_trichotomy xs.length 11 with h | h | h
  · rw [show rV xs = (0, 0, 0) from if_neg (by omega), show rC xs = 101 from if_pos h]
    exact refRead_end v xs w hr h
  · rw [show rV xs = _ from if_pos h, show rC xs = 0 by unfold rC; rw [if_neg (by omega), if_neg (by omega)]]
    exact refRead_ok v xs w hr hb h
  · rw [show rV xs = (0, 0, 0) from if_neg (by omega), show rC xs = 102 by unfold rC; rw [if_neg (by omega), if_pos h]]
    exact refRead_shape v xs w hr h
theorem is_same (A : Nat → Addr) (c : Int) (w : World) (h : Sents w A) (hc : codeOk c) : Calls Tryd.prog 10 #[errOf A c, .int .i64 c] w fun e w' => e = .returned (.bool true) ∧ Below w.heap.size w w' := by
  have := is_any A c c w h hc
  rwa [beq_self_eq_true] at this
theorem sameBytes_same (v u : Value) (xs : List Int) (w : World) (h : Reads .u8 w v xs) (h2 : Reads .u8 w u xs) (hx : xs.length ≤ 1000000000) :
    Calls Tryd.prog 11 #[v, u] w fun e w' => e = .returned (.bool true) ∧ ∃ m, w' = w.drewN m := by
  have := sameBytes_any v u xs xs w h h2 hx
  rwa [decide_eq_true rfl] at this
theorem sameLongs_same (v u : Value) (xs : List Int) (w : World) (h : Reads .i64 w v xs) (h2 : Reads .i64 w u xs) (hx : xs.length ≤ 1000000000) :
    Calls Tryd.prog 22 #[v, u] w fun e w' => e = .returned (.bool true) ∧ ∃ m, w' = w.drewN m := by
  have := sameLongs_any v u xs xs w h h2 hx
  rwa [decide_eq_true rfl] at this
theorem same_same (ev : Value) (c p : Int) (pl : Bool) (w : World) (hf : FaultIs w ev c pl p) :
    Calls Tryd.prog 21 #[ev, faultV c pl p] w fun e w' => e = .returned (.bool true) ∧ Below w.heap.size w w' := by
  have := same_any ev c c p p pl pl w hf
  simpa using this
theorem unpack_out (A : Nat → Addr) (v : Value) (xs : List Int) (n : Int) (w : World) (hr : Reads .u8 w v xs) (hn : n < 0 ∨ 64 < n) (hE : ErrsOn [2] w A) :
    Calls Tryd.prog 16 #[v, .int .i64 n] w fun e w' => e = .returned (.tuple #[.slice none 0 0, errOf A 103]) ∧ ∃ m, w' = w.drewN m := by
  obtain ⟨a, c, rfl⟩ := reads_slice hr
  have c2 : w.cell? ⟨0, 0, none⟩ = some (errAt (A 2)) := hE 2 (by simp)
  replace hn := hidden hn
  clear hr hE
  go_enter Tryd.func16, Tryd.ntmps16
  go_wp2_with fail
  with_reducible refine (upTo_no _ _ _ hn.out).mono ?_
  rintro e w' ⟨rfl, rfl⟩
  go_wp2_with fail
  go_quiet (fail)
  go_wp2
  go_ret2
  exact ⟨rfl, _, rfl⟩
def lgs (l : List Int) : List Value := l.map (Value.int .i64)
theorem lgs_snoc (l : List Int) (x : Int) : lgs (l ++ [x]) = lgs l ++ [.int .i64 x] := by simp [lgs]
theorem infoL9 : (Tryd.prog.info? 2).map (fun i => (i.zero, i.size, i.bytes)) = some (some (.int .i64 0), 1, 8) := by kernel_rfl
theorem own_trd {w w' : World} {base g n size : Nat} {e : TypeId} {v : Value} {xs : List Value} (h : w.ownsRow base e size v n xs) (ht : Trd (· = g) w w') (hg : g < base) : w'.ownsRow base e size v n xs := by
  obtain ⟨h1, h2⟩ := h
  refine ⟨h1, ?_⟩
  rcases h2 with h2 | ⟨k, cap, cur, hv, hk, hh, r⟩
  · exact .inl h2
  · exact .inr ⟨k, cap, cur, hv, hk, by rw [ht.block k (Array.getElem?_eq_some_iff.1 hh).1 (by omega)]; exact hh, r⟩
theorem RefR.above {w w' : World} {g p B : Nat} {bv : Value} {xs : List Int} {bad : Option Nat} (h : RefR w g bv xs p bad) (hb : Below B w w') (hg : g < B) : RefR w' g bv xs p bad :=
  ⟨by rw [hb.block g hg]; exact h.hg, fun W hW => h.rdl W fun i hi => (hW i hi).trans (hb.block i (by omega)), h.le⟩
theorem refR_new (w : World) (bv : Value) (xs : List Int) (h : Reads .u8 w bv xs) : RefR (w.alloc (.cells #[bv, .int .i64 0, .int .i64 0, .bool false, .int .i64 0] 47)) w.heap.size bv xs 0 none :=
  ⟨heap_alloc_new w _, fun W hW => h.same fun i hi => (hW i hi).trans (heap_alloc_old w _ hi), Nat.zero_le _⟩
def SayRel (vb : Value) (bs : List Int) (N g : Nat) (w0 : World) (nums i : Value) (wr : World) : Prop :=
  ∃ k : Nat, k ≤ N ∧ i = .int .i64 (k : Int) ∧ RefR wr g vb bs (rdS bs k).p (rdS bs k).bad ∧ wr.ownsRow (g + 1) 2 1 nums k (lgs (rdS bs k).vs) ∧ Below g w0 wr

set_option maxRecDepth 100000 in
set_option maxHeartbeats 12800000 in
theorem walk_recSays (p a b : Int) (vk : Value) (key : List Int) (vb : Value) (bs : List Int) (n : Int) (vl : Value) (l : List Int) (A : Nat → Addr) (w : World)
    (p0 : -9223372036854775808 ≤ p) (p1 : p ≤ 9223372036854775807) (a0 : -9223372036854775808 ≤ a) (a1 : a ≤ 9223372036854775807) (b0 : -9223372036854775808 ≤ b) (b1 : b ≤ 9223372036854775807)
    (hk : Reads .u8 w vk key) (hkb : ∀ x ∈ key, 0 ≤ x ∧ x ≤ 255) (hbs : Reads .u8 w vb bs) (hbb : ∀ x ∈ bs, 0 ≤ x ∧ x ≤ 255) (n0 : -9223372036854775808 ≤ n) (n1 : n ≤ 9223372036854775807)
    (hl : Reads .i64 w vl l) (hlr : ∀ x ∈ l, -9223372036854775808 ≤ x ∧ x ≤ 9223372036854775807) (hS : Sents w A) :
    Calls Tryd.prog 3 #[plV p a b, vk, vb, .int .i64 n, vl] w fun e w' => e = .returned (.bool true) ∧ Below w.heap.size w w' := by
  have km : key.length ≤ 9223372036854775807 := by obtain ⟨_, _, _, _, e, _, h, _⟩ := hk; unfold maxLen at h; omega
  have bm : bs.length ≤ 9223372036854775807 := by obtain ⟨_, _, _, _, e, _, h, _⟩ := hbs; unfold maxLen at h; omega
  have lm : l.length ≤ 9223372036854775807 := by obtain ⟨_, _, _, _, e, _, h, _⟩ := hl; unfold maxLen at h; omega
  obtain ⟨ak, ck, rfl⟩ := reads_slice hk
  obtain ⟨ab, cB, rfl⟩ := reads_slice hbs
  obtain ⟨al, cl, rfl⟩ := reads_slice hl
  replace hk := hidden hk
  replace hbs := hidden hbs
  replace hl := hidden hl
  replace hkb := hidden hkb
  replace hbb := hidden hbb
  replace hlr := hidden hlr
  replace hS := hidden hS
  have hb0 := hidden ((Below.refl w.heap.size w).alloc (Nat.le_refl _) (plO p a b))
  have hP0 := hidden (plAt_of (p := p) (a := a) (b := b) (w := w) (Below.refl _ _))
  by_cases hbig : 60 < key.length ∨ 100 < bs.length ∨ 30 < l.length
  · have hw : decide ((60 : Int) < (key.length : Int)) = true ∨ (decide ((60 : Int) < (key.length : Int)) = false ∧ decide ((100 : Int) < (bs.length : Int)) = true) ∨ (decide ((60 : Int) < (key.length : Int)) = false ∧ decide ((100 : Int) < (bs.length : Int)) = false ∧ decide ((30 : Int) < (l.length : Int)) = true) := by
      simp only [decide_eq_true_iff, decide_eq_false_iff_not]
      omega
    clear hbig
    rcases hw with t1 | ⟨t1, t2⟩ | ⟨t1, t2, t3⟩
    all_goals
      go_enter Tryd.func3, Tryd.ntmps3
      go_wp2_with fail
      refine (law9_first _).mono ?_
      rintro e w1 ⟨rfl, hb⟩
      have hb1 := hidden (hb0.out.trans (hb.mono hb0.out.size))
      clear hb
      go_wp2
      go_ret
      exact ⟨rfl, hb1.out⟩
  · have t1 : ¬ (60 : Int) < (key.length : Int) := by omega
    have t2 : decide ((100 : Int) < (bs.length : Int)) = false := decide_eq_false (by omega)
    have t3 : decide ((30 : Int) < (l.length : Int)) = false := decide_eq_false (by omega)
    have l1 := hidden (show key.length ≤ 60 by omega)
    have l2 := hidden (show bs.length ≤ 100 by omega)
    have l3 := hidden (show l.length ≤ 30 by omega)
    clear hbig
    go_enter Tryd.func3, Tryd.ntmps3
    go_wp2_with fail
    refine (law9_first _).mono ?_
    rintro e w1 ⟨rfl, hb⟩
    have hb1 := hidden (hb0.out.trans (hb.mono hb0.out.size))
    have hP1 := hidden (hP0.out.below hb)
    clear hb hP0 hb0
    have e0 := hP1.out.c0
    have e1 := hP1.out.c1
    have e2 := hP1.out.c2
    have hK := hidden (key_all A p a b w1 ((hS.out.below hb1.out (Nat.le_refl _)).on [2] (by simp)))
    go_wp2_with fail
    refine hK.out.mono ?_
    rintro e w2 ⟨v2, rfl, hx2, hb⟩
    have hb2 := hidden (hb1.out.trans (hb.mono hb1.out.size))
    have hP2 := hidden (hP1.out.below hb)
    replace hx2 := hidden hx2
    clear hb hP1 hb1 e0 e1 e2 hK
    have e0 := hP2.out.c0
    have e1 := hP2.out.c1
    have e2 := hP2.out.c2
    go_wp2_with fail
    refine (refKey_all p a b w2).mono ?_
    rintro e w3 ⟨v3, rfl, hy3, hb⟩
    have hb3 := hidden (hb2.out.trans (hb.mono hb2.out.size))
    have hx3 := hidden (hx2.out.below hb (Nat.le_refl _))
    replace hy3 := hidden hy3
    have hkl := hidden (kB_len p a b)
    have hkc := hidden (kC_code p a b)
    clear hb hP2 hb2 e0 e1 e2 hx2
    generalize kC p a b = kc at *
    generalize kB p a b = kb at *
    go_wp2_with fail
    refine (is_same A kc w3 (hS.out.below hb3.out (Nat.le_refl _)) hkc.out).mono ?_
    rintro e w4 ⟨rfl, hb⟩
    have hb4 := hidden (hb3.out.trans (hb.mono hb3.out.size))
    have hx4 := hidden (hx3.out.below hb (Nat.le_refl _))
    have hy4 := hidden (hy3.out.below hb (Nat.le_refl _))
    clear hb hx3 hy3 hb3
    go_wp2_with fail
    refine (sameBytes_same _ _ kb w4 hx4.out hy4.out (by have := hkl.out; omega)).mono ?_
    rintro e w5 ⟨rfl, m, rfl⟩
    have hb5 := hidden (below_drewN (m := m) hb4.out)
    clear hx4 hy4 hb4 hkl hkc
    generalize w4.drewN m = w5 at *
    go_wp2_with fail
    refine (read_all A _ key w5 (hk.out.below hb5.out (Nat.le_refl _)) hkb.out ((hS.out.below hb5.out (Nat.le_refl _)).on [0, 1] (by simp))).mono ?_
    rintro e w6 ⟨rfl, hb⟩
    have hrc := hidden (rC_code key)
    have hR := hidden (fun W h => refRead_all _ key W (hk.out.below (w' := W) h (Nat.le_refl _)) hkb.out)
    have hb6 := hidden (hb5.out.trans (hb.mono hb5.out.size))
    clear hb
    generalize rV key = rv at *
    obtain ⟨x1, x2, x3⟩ := rv
    simp only at *
    generalize rC key = rc at *
    have hb7 := hidden (hb6.out.alloc hb6.out.size (plO x1 x2 x3))
    have hP7 := hidden (plAt_of (p := x1) (a := x2) (b := x3) (w := w6) (Below.refl _ _))
    go_wp2_with fail
    refine (hR.out _ hb7.out).mono ?_
    rintro e w7 ⟨rfl, rfl⟩
    go_wp2_with fail
    refine (is_same A rc _ (hS.out.below hb7.out (Nat.le_refl _)) hrc.out).mono ?_
    rintro e w8 ⟨rfl, hb⟩
    have hb8 := hidden (hb7.out.trans (hb.mono hb7.out.size))
    have hP8 := hidden (hP7.out.below hb)
    clear hb hP7 hb7 hR hrc hb6 hb5
    have e0 := hP8.out.c0
    have e1 := hP8.out.c1
    have e2 := hP8.out.c2
    have q1 : (x1 != x1) = false := by simp
    have q2 : (x2 != x2) = false := by simp
    have q3 : (x3 != x3) = false := by simp
    go_wp2_with fail
    clear e0 e1 e2 q1 q2 q3 hP8
    go_loopw [22, 23] (fun v i wr => WantRel w [] [] l v i wr) (fun _ i _ => l.length - (RowKit.intOf i).toNat)
    case atStart => exact ⟨0, rfl, Nat.zero_le _, by simpa [encs_nil] using Reads.nil _ _, (by simp), hb8.out⟩
    case round =>
      clear hb8
      obtain ⟨k, rfl, hkl, hrk, _, hbk⟩ := hrel
      rw [List.nil_append] at hrk
      replace hrk := hidden hrk
      replace hbk := hidden hbk
      by_cases hlt : k < l.length
      · have hlt' : (k : Int) < (l.length : Int) := by omega
        obtain ⟨bl, ol, rfl, hcell⟩ := (hl.out.below hbk.out (Nat.le_refl _)).cell k hlt
        have hxr := hidden (hlr.out _ (getD_mem l k hlt))
        have hsn := hidden (take_snoc_getD l k hlt)
        have htl := hidden (show (encs (l.take k)).length ≤ 1000000 by
          have h1 := encs_len (l.take k) (fun x hx => hlr.out x (List.mem_of_mem_take hx))
          have h2 := List.length_take_le' k l
          have := l3.out
          omega)
        generalize l.getD k 0 = x at *
        go_wp2_with fail
        refine (refPut_any _ (encs (l.take k)) x _ hrk.out htl.out hxr.out.1 hxr.out.2).mono ?_
        rintro e w4 ⟨v4, rfl, hown4, hb⟩
        have hb4 := hidden (hbk.out.trans (hb.mono hbk.out.size))
        have hr4 := hidden (reads_of_own (k := .u8) hown4)
        clear hb hown4
        go_wp2
        go_roundw
        case rel => exact ⟨k + 1, by go_num, hlt, by rw [List.nil_append, hsn.out, encs_snoc]; exact hr4.out, (by simp), hb4.out⟩
        case measure => simp [RowKit.intOf]; omega
      · have hlt' : ¬ (k : Int) < (l.length : Int) := by omega
        obtain rfl : k = l.length := by omega
        rw [List.take_length] at hrk
        have hel := hidden (encs_len l hlr.out)
        have hwr := hidden (show (encs l).length ≤ 1000000 by have := hel.out; have := l3.out; omega)
        clear hlt hkl
        by_cases h64 : 64 < (encs l).length
        · have h64I : (64 : Int) < ((encs l).length : Int) := by omega
          obtain ⟨aw, cw, rfl⟩ := reads_slice hrk.out
          go_wp2_with fail
          refine (pack_many A _ l wr (hl.out.below hbk.out (Nat.le_refl _)) (by have := l3.out; omega) hlr.out h64 ((hS.out.below hbk.out (Nat.le_refl _)).on [4] (by simp))).mono ?_
          rintro e w9 ⟨rfl, hb⟩
          have hb9 := hidden (hbk.out.trans (hb.mono hbk.out.size))
          clear hb hbk
          go_wp2_with fail
          refine (is_same A 105 w9 (hS.out.below hb9.out (Nat.le_refl _)) (Or.inr ⟨by decide, by decide⟩)).mono ?_
          rintro e wT ⟨rfl, hb⟩
          have hbT := hidden (hb9.out.trans (hb.mono hb9.out.size))
          clear hb hb9 hrk h64
          by_cases hn : 0 ≤ n ∧ n ≤ 64
          · obtain ⟨N, rfl⟩ : ∃ N : Nat, n = (N : Int) := ⟨n.toNat, by omega⟩
            have hN : N ≤ 64 := by omega
            have hNI : (N : Int) ≤ 64 := by omega
            have hN0 : (0 : Int) ≤ (N : Int) := by omega
            have hU := hidden (unpack_any A _ bs N wT (hbs.out.below hbT.out (Nat.le_refl _)) (by have := l2.out; omega) hbb.out hN (sents_012 hS.out hbT.out))
            clear hn n0 n1
            go_wp2_with fail
            refine hU.out.mono ?_
            rintro e wU ⟨hb, hres⟩
            have hbU := hidden (hbT.out.trans (hb.mono hbT.out.size))
            clear hb hU hbT
            obtain ⟨m, h, rfl, hkeep⟩ : ∃ m h, e = .returned (.tuple #[m, h]) ∧ Hid (match unp bs N with
                | .inl vs => h = .nilIface ∧ Reads .i64 wU m vs
                | .inr (c, p) => m = .slice none 0 0 ∧ ∃ ga, h = .iface 69 (.pointer (some ⟨ga, 0, none⟩)) ∧ AtIn wU ga p (A c)) := by
              revert hres
              cases unp bs N with
              | inl vs => rintro ⟨v, rfl, h2⟩; exact ⟨_, _, rfl, rfl, h2⟩
              | inr cp => rintro ⟨ga, rfl, h2⟩; exact ⟨_, _, rfl, rfl, ga, rfl, h2⟩
            clear hres
            have hR0 := hidden (refR_new wU (.slice ab bs.length cB) bs (hbs.out.below hbU.out (Nat.le_refl _)))
            have hlow0 := hidden ((Below.refl wU.heap.size wU).alloc (Nat.le_refl _) (.cells #[.slice ab bs.length cB, .int .i64 0, .int .i64 0, .bool false, .int .i64 0] 47))
            have hsz := hidden (show (wU.alloc (.cells #[.slice ab bs.length cB, .int .i64 0, .int .i64 0, .bool false, .int .i64 0] 47)).heap.size = wU.heap.size + 1 by simp)
            go_wp2_with fail
            generalize (wU.alloc (.cells #[.slice ab bs.length cB, .int .i64 0, .int .i64 0, .bool false, .int .i64 0] 47)) = wV at *
            generalize hg : wU.heap.size = g at *
            replace hg := hidden hg
            go_loopw [29, 30] (fun v i wr => SayRel (.slice ab bs.length cB) bs N g wU v i wr) (fun _ i _ => N - (RowKit.intOf i).toNat)
            case atStart => exact ⟨0, Nat.zero_le _, rfl, hR0.out, World.ownsRow_nil _ _ _ _, hlow0.out⟩
            case round =>
              clear hR0 hlow0 hsz
              obtain ⟨k, hkN, rfl, hR, hown, hlow⟩ := hrel
              obtain ⟨wr2, rfl⟩ : ∃ wr2, wr2 = wr := ⟨_, rfl⟩
              replace hlow := hidden hlow
              replace hown := hidden hown
              by_cases hltN : k < N
              · have hkI : (k : Int) < (N : Int) := by omega
                have hNum := hidden (refNum_next wr2 g _ bs _ _ hR (by have := l2.out; omega) hbb.out)
                have hgl := hidden hR.lt
                have hvs := hidden (rdS_vs bs k)
                have hps := hidden (rdS_p bs k)
                have hbd := hidden (rdS_bad bs k)
                have hvl := hidden (rdS_len bs k)
                clear hR
                go_wp2_with fail
                refine hNum.out.mono ?_
                rintro e wN ⟨rfl, hRN, ht⟩
                have hown2 := own_trd hown.out ht (Nat.lt_succ_self _)
                have hlow2 := hidden (hlow.out.trans (ht.below (B := g) (fun j hj => by omega) (Nat.le_of_lt hgl.out)))
                have hbase : g + 1 ≤ wN.heap.size := by have := hgl.out; have := ht.size; omega
                replace hRN := hidden hRN
                generalize rdS bs k = s at *
                generalize (rdNext bs s.p s.bad).1 = z at *
                clear ht hNum hlow hown hgl
                go_wp2_with (at_builtin; refine wpList_app1 rfl _ _ 25 rfl 2 Tryd.underlying25 infoL9 rfl (by decide) (g + 1) _ _ _ rfl hown2 _ rfl rfl ?_ hbase ?_)
                case _ => omega
                intro v2 w2 hown3 hb2
                replace hown3 := hidden (show w2.ownsRow (g + 1) 2 1 v2 (k + 1) (lgs (rdS bs (k + 1)).vs) by rw [hvs.out, lgs_snoc]; exact hown3)
                have hR3 := hidden (show RefR w2 g (.slice ab bs.length cB) bs (rdS bs (k + 1)).p (rdS bs (k + 1)).bad by rw [hps.out, hbd.out]; exact hRN.out.above hb2 (Nat.lt_succ_self _))
                have hlow3 := hidden (hlow2.out.trans (hb2.mono (Nat.le_succ _)))
                clear hb2 hown2 hRN hlow2 hbase
                go_wp2
                go_roundw
                case rel => exact ⟨k + 1, hltN, by go_num, hR3.out, hown3.out, hlow3.out⟩
                case measure => simp [RowKit.intOf]; omega
              · obtain rfl : k = N := by omega
                have hltI : ¬ (k : Int) < (k : Int) := by omega
                have hu := hidden (show unp bs k = match (rdS bs k).bad with | some c => .inr (c, (rdS bs k).p) | none => if (rdS bs k).p < bs.length then .inr (1, (rdS bs k).p) else .inl (rdS bs k).vs from rfl)
                have hcode := hidden (rdS_code bs k)
                have hvl := hidden (rdS_len bs k)
                generalize rdS bs k = s at *
                obtain ⟨vs, q, bad⟩ := s
                simp only at hR hown hu hcode hvl
                have hkeepw := hidden (fun (W : World) (hW : Below g wU W) => show Below wU.heap.size wU W by rw [hg.out]; exact hW)
                have hloww := hidden (fun (W : World) (hW : Below g wU W) => hbU.out.trans (hW.mono (by have := hbU.out.size; have := hg.out; omega)))
                cases bad with
                | some c =>
                  have hc3 := hidden (hcode.out c rfl)
                  rw [show unp bs k = .inr (c, q) from hu.out] at hkeep
                  obtain ⟨rfl, ga, rfl, hat⟩ := hkeep.out
                  have hOk := hidden (refROk_any wr2 g _ bs q (some c) hR)
                  have hf := hidden (faultIs_at A c ga q wr2 (hS.out.below (hloww.out _ hlow.out) (Nat.le_refl _)) (by have := hc3.out; omega) (hat.below (hkeepw.out _ hlow.out)))
                  have e2 : wr2.cell? ⟨g, 2, none⟩ = some (.int .i64 (101 + (c : Int))) := hR.c2
                  have e3 : wr2.cell? ⟨g, 3, none⟩ = some (.bool true) := hR.c3
                  have e4 : wr2.cell? ⟨g, 4, none⟩ = some (.int .i64 (q : Int)) := hR.c4
                  have hend := hidden (hloww.out _ hlow.out)
                  clear hR hown hkeep hat hu hcode hlow
                  go_wp2_with fail
                  refine hOk.out.mono ?_
                  rintro e wX ⟨rfl, rfl⟩
                  go_wp2_with fail
                  refine hOk.out.mono ?_
                  rintro e wX ⟨rfl, rfl⟩
                  go_wp2_with fail
                  refine (same_same _ _ _ _ wr2 hf.out).mono ?_
                  rintro e wY ⟨rfl, hb⟩
                  have hbY := hidden (hend.out.trans (hb.mono hend.out.size))
                  clear hb
                  go_wp2_with fail
                  refine (sameLongs_same _ _ [] wY (Reads.nil _ _) (Reads.nil _ _) (by decide)).mono ?_
                  rintro e wZ ⟨rfl, mz, rfl⟩
                  go_wp2
                  go_ret
                  exact ⟨rfl, below_drewN hbY.out⟩
                | none =>
                  have hOk := hidden (fun m => refROk_any (wr2.drewN m) g _ bs q none (hR.below ⟨rfl, rfl, rfl, Nat.le_refl _, fun _ _ => rfl⟩))
                  have hLf := hidden (refRLeft_any wr2 g _ bs q none hR (by have := l2.out; omega))
                  have hqb := hidden hR.le
                  have hbsI : (bs.length : Int) ≤ 100 := by have := l2.out; omega
                  by_cases hlast : q < bs.length
                  · have hltq : (0 : Int) < (bs.length : Int) - (q : Int) := by omega
                    rw [show unp bs k = .inr (1, q) by rw [hu.out]; simp only; rw [if_pos hlast]] at hkeep
                    obtain ⟨rfl, ga, rfl, hat⟩ := hkeep.out
                    have hFl := hidden (fun m => refFail_any (wr2.drewN m) g _ bs q 1 (hR.below ⟨rfl, rfl, rfl, Nat.le_refl _, fun _ _ => rfl⟩))
                    have e1 := hR.c1
                    have hgl := hidden hR.lt
                    replace hat := hidden hat
                    clear hR hown hkeep hu hcode hlast
                    go_wp2_with fail
                    refine (hOk.out 0).mono ?_
                    rintro e wX ⟨rfl, hwX⟩
                    obtain rfl : wr2 = wX := hwX
                    go_wp2_with fail
                    refine hLf.out.mono ?_
                    rintro e wX ⟨rfl, ml, rfl⟩
                    go_wp2_with fail
                    refine (hFl.out ml).mono ?_
                    rintro e wF ⟨rfl, hRF, htF⟩
                    have hlowF := hidden ((below_drewN (m := ml) hlow.out).trans (htF.below (B := g) (fun j hj => by omega) (Nat.le_of_lt hgl.out)))
                    have hOk2 := hidden (refROk_any wF g _ bs q (some 1) hRF)
                    have hf := hidden (faultIs_at A 1 ga q wF (hS.out.below (hloww.out _ hlowF.out) (Nat.le_refl _)) (by decide) (hat.out.below (hkeepw.out _ hlowF.out)))
                    have e2 : wF.cell? ⟨g, 2, none⟩ = some (.int .i64 (101 + ((1 : Nat) : Int))) := hRF.c2
                    have e3 : wF.cell? ⟨g, 3, none⟩ = some (.bool true) := hRF.c3
                    have e4 : wF.cell? ⟨g, 4, none⟩ = some (.int .i64 (q : Int)) := hRF.c4
                    have hend := hidden (hloww.out _ hlowF.out)
                    clear hRF htF hat hlow hlowF hFl e1
                    go_wp2_with fail
                    refine hOk2.out.mono ?_
                    rintro e wX ⟨rfl, rfl⟩
                    go_wp2_with fail
                    refine (same_same _ _ _ _ wF hf.out).mono ?_
                    rintro e wY ⟨rfl, hb⟩
                    have hbY := hidden (hend.out.trans (hb.mono hend.out.size))
                    clear hb
                    go_wp2_with fail
                    refine (sameLongs_same _ _ [] wY (Reads.nil _ _) (Reads.nil _ _) (by decide)).mono ?_
                    rintro e wZ ⟨rfl, mz, rfl⟩
                    go_wp2
                    go_ret
                    exact ⟨rfl, below_drewN hbY.out⟩
                  · have hltq : ¬ (0 : Int) < (bs.length : Int) - (q : Int) := by omega
                    rw [show unp bs k = .inl vs by rw [hu.out]; simp only; rw [if_neg hlast]] at hkeep
                    obtain ⟨rfl, hm⟩ := hkeep.out
                    have e2 : ∀ m, (wr2.drewN m).cell? ⟨g, 2, none⟩ = some (.int .i64 0) := fun m => hR.c2
                    have e3 : ∀ m, (wr2.drewN m).cell? ⟨g, 3, none⟩ = some (.bool false) := fun m => hR.c3
                    have e4 : ∀ m, (wr2.drewN m).cell? ⟨g, 4, none⟩ = some (.int .i64 0) := fun m => hR.c4
                    have hrn := hidden (fun m => show Reads .i64 (wr2.drewN m) _ vs from reads_of_own (k := .i64) (by rw [← hvl.out] at hown; exact hown))
                    have hrm := hidden (hm.below (hkeepw.out _ hlow.out) (Nat.le_refl _))
                    have hend := hidden (hloww.out _ hlow.out)
                    clear hR hown hkeep hu hcode hlast hm hlow
                    go_wp2_with fail
                    refine (hOk.out 0).mono ?_
                    rintro e wX ⟨rfl, hwX⟩
                    obtain rfl : wr2 = wX := hwX
                    go_wp2_with fail
                    refine hLf.out.mono ?_
                    rintro e wX ⟨rfl, ml, rfl⟩
                    go_wp2_with fail
                    refine (hOk.out ml).mono ?_
                    rintro e wX ⟨rfl, hwX⟩
                    obtain rfl := hwX
                    go_wp2_with fail
                    refine (same_same _ _ _ _ (wr2.drewN ml) (faultIs_nil _)).mono ?_
                    rintro e wY ⟨rfl, hb⟩
                    have hbY := hidden ((below_drewN (m := ml) hend.out).trans (hb.mono hend.out.size))
                    have hn1 := hidden ((hrn.out ml).below hb (Nat.le_refl _))
                    have hn2 := hidden ((show Reads .i64 (wr2.drewN ml) m vs from hrm.out).below hb (Nat.le_refl _))
                    clear hb e2 e3 e4
                    go_wp2_with fail
                    refine (sameLongs_same _ _ vs wY hn2.out hn1.out (by have := hvl.out; omega)).mono ?_
                    rintro e wZ ⟨rfl, mz, rfl⟩
                    go_wp2
                    go_ret
                    exact ⟨rfl, below_drewN hbY.out⟩
          · have hnn := hidden (show n < 0 ∨ 64 < n by omega)
            have hU := hidden (unpack_out A _ bs n wT (hbs.out.below hbT.out (Nat.le_refl _)) hnn.out ((hS.out.below hbT.out (Nat.le_refl _)).on [2] (by simp)))
            have hw : decide (n < 0) = true ∨ (decide (n < 0) = false ∧ decide (64 < n) = true) := by
              simp only [decide_eq_true_iff, decide_eq_false_iff_not]
              omega
            clear hn
            go_wp2_with fail
            refine hU.out.mono ?_
            rintro e wU ⟨rfl, mu, rfl⟩
            have hbU := hidden (below_drewN (m := mu) hbT.out)
            clear hU hbT
            rcases hw with d1 | ⟨d1, d2⟩
            all_goals
              go_wp2_with fail
              refine (is_same A 103 _ (hS.out.below hbU.out (Nat.le_refl _)) (Or.inr ⟨by decide, by decide⟩)).mono ?_
              rintro e wY ⟨rfl, hb⟩
              have hbY := hidden (hbU.out.trans (hb.mono hbU.out.size))
              clear hb
              go_wp2
              go_ret
              exact ⟨rfl, hbY.out⟩
        · have h64I : ¬ (64 : Int) < ((encs l).length : Int) := by omega
          obtain ⟨aw, cw, rfl⟩ := reads_slice hrk.out
          go_wp2_with fail
          refine (pack_ok _ l wr (hl.out.below hbk.out (Nat.le_refl _)) (by have := l3.out; omega) hlr.out (by omega)).mono ?_
          rintro e w9 ⟨v9, rfl, hown9, hb⟩
          have hb9 := hidden (hbk.out.trans (hb.mono hbk.out.size))
          have hr9 := hidden (reads_of_own (k := .u8) hown9)
          have hw9 := hidden (hrk.out.below hb (Nat.le_refl _))
          clear hb hown9 hrk hbk
          go_wp2_with fail
          refine (sameBytes_same _ _ (encs l) w9 hr9.out hw9.out (by omega)).mono ?_
          rintro e wS ⟨rfl, mm, hwS⟩
          have hbT := hidden (show Below w.heap.size w wS by rw [hwS]; exact below_drewN hb9.out)
          clear hwS hr9 hw9 hb9 h64
          obtain ⟨wT, rfl⟩ : ∃ wT, wT = wS := ⟨_, rfl⟩
          by_cases hn : 0 ≤ n ∧ n ≤ 64
          · obtain ⟨N, rfl⟩ : ∃ N : Nat, n = (N : Int) := ⟨n.toNat, by omega⟩
            have hN : N ≤ 64 := by omega
            have hNI : (N : Int) ≤ 64 := by omega
            have hN0 : (0 : Int) ≤ (N : Int) := by omega
            have hU := hidden (unpack_any A _ bs N wT (hbs.out.below hbT.out (Nat.le_refl _)) (by have := l2.out; omega) hbb.out hN (sents_012 hS.out hbT.out))
            clear hn n0 n1
            go_wp2_with fail
            refine hU.out.mono ?_
            rintro e wU ⟨hb, hres⟩
            have hbU := hidden (hbT.out.trans (hb.mono hbT.out.size))
            clear hb hU hbT
            obtain ⟨m, h, rfl, hkeep⟩ : ∃ m h, e = .returned (.tuple #[m, h]) ∧ Hid (match unp bs N with
                | .inl vs => h = .nilIface ∧ Reads .i64 wU m vs
                | .inr (c, p) => m = .slice none 0 0 ∧ ∃ ga, h = .iface 69 (.pointer (some ⟨ga, 0, none⟩)) ∧ AtIn wU ga p (A c)) := by
              revert hres
              cases unp bs N with
              | inl vs => rintro ⟨v, rfl, h2⟩; exact ⟨_, _, rfl, rfl, h2⟩
              | inr cp => rintro ⟨ga, rfl, h2⟩; exact ⟨_, _, rfl, rfl, ga, rfl, h2⟩
            clear hres
            have hR0 := hidden (refR_new wU (.slice ab bs.length cB) bs (hbs.out.below hbU.out (Nat.le_refl _)))
            have hlow0 := hidden ((Below.refl wU.heap.size wU).alloc (Nat.le_refl _) (.cells #[.slice ab bs.length cB, .int .i64 0, .int .i64 0, .bool false, .int .i64 0] 47))
            have hsz := hidden (show (wU.alloc (.cells #[.slice ab bs.length cB, .int .i64 0, .int .i64 0, .bool false, .int .i64 0] 47)).heap.size = wU.heap.size + 1 by simp)
            go_wp2_with fail
            generalize (wU.alloc (.cells #[.slice ab bs.length cB, .int .i64 0, .int .i64 0, .bool false, .int .i64 0] 47)) = wV at *
            generalize hg : wU.heap.size = g at *
            replace hg := hidden hg
            go_loopw [29, 30] (fun v i wr => SayRel (.slice ab bs.length cB) bs N g wU v i wr) (fun _ i _ => N - (RowKit.intOf i).toNat)
            case atStart => exact ⟨0, Nat.zero_le _, rfl, hR0.out, World.ownsRow_nil _ _ _ _, hlow0.out⟩
            case round =>
              clear hR0 hlow0 hsz
              obtain ⟨k, hkN, rfl, hR, hown, hlow⟩ := hrel
              obtain ⟨wr2, rfl⟩ : ∃ wr2, wr2 = wr := ⟨_, rfl⟩
              replace hlow := hidden hlow
              replace hown := hidden hown
              by_cases hltN : k < N
              · have hkI : (k : Int) < (N : Int) := by omega
                have hNum := hidden (refNum_next wr2 g _ bs _ _ hR (by have := l2.out; omega) hbb.out)
                have hgl := hidden hR.lt
                have hvs := hidden (rdS_vs bs k)
                have hps := hidden (rdS_p bs k)
                have hbd := hidden (rdS_bad bs k)
                have hvl := hidden (rdS_len bs k)
                clear hR
                go_wp2_with fail
                refine hNum.out.mono ?_
                rintro e wN ⟨rfl, hRN, ht⟩
                have hown2 := own_trd hown.out ht (Nat.lt_succ_self _)
                have hlow2 := hidden (hlow.out.trans (ht.below (B := g) (fun j hj => by omega) (Nat.le_of_lt hgl.out)))
                have hbase : g + 1 ≤ wN.heap.size := by have := hgl.out; have := ht.size; omega
                replace hRN := hidden hRN
                generalize rdS bs k = s at *
                generalize (rdNext bs s.p s.bad).1 = z at *
                clear ht hNum hlow hown hgl
                go_wp2_with (at_builtin; refine wpList_app1 rfl _ _ 25 rfl 2 Tryd.underlying25 infoL9 rfl (by decide) (g + 1) _ _ _ rfl hown2 _ rfl rfl ?_ hbase ?_)
                case _ => omega
                intro v2 w2 hown3 hb2
                replace hown3 := hidden (show w2.ownsRow (g + 1) 2 1 v2 (k + 1) (lgs (rdS bs (k + 1)).vs) by rw [hvs.out, lgs_snoc]; exact hown3)
                have hR3 := hidden (show RefR w2 g (.slice ab bs.length cB) bs (rdS bs (k + 1)).p (rdS bs (k + 1)).bad by rw [hps.out, hbd.out]; exact hRN.out.above hb2 (Nat.lt_succ_self _))
                have hlow3 := hidden (hlow2.out.trans (hb2.mono (Nat.le_succ _)))
                clear hb2 hown2 hRN hlow2 hbase
                go_wp2
                go_roundw
                case rel => exact ⟨k + 1, hltN, by go_num, hR3.out, hown3.out, hlow3.out⟩
                case measure => simp [RowKit.intOf]; omega
              · obtain rfl : k = N := by omega
                have hltI : ¬ (k : Int) < (k : Int) := by omega
                have hu := hidden (show unp bs k = match (rdS bs k).bad with | some c => .inr (c, (rdS bs k).p) | none => if (rdS bs k).p < bs.length then .inr (1, (rdS bs k).p) else .inl (rdS bs k).vs from rfl)
                have hcode := hidden (rdS_code bs k)
                have hvl := hidden (rdS_len bs k)
                generalize rdS bs k = s at *
                obtain ⟨vs, q, bad⟩ := s
                simp only at hR hown hu hcode hvl
                have hkeepw := hidden (fun (W : World) (hW : Below g wU W) => show Below wU.heap.size wU W by rw [hg.out]; exact hW)
                have hloww := hidden (fun (W : World) (hW : Below g wU W) => hbU.out.trans (hW.mono (by have := hbU.out.size; have := hg.out; omega)))
                cases bad with
                | some c =>
                  have hc3 := hidden (hcode.out c rfl)
                  rw [show unp bs k = .inr (c, q) from hu.out] at hkeep
                  obtain ⟨rfl, ga, rfl, hat⟩ := hkeep.out
                  have hOk := hidden (refROk_any wr2 g _ bs q (some c) hR)
                  have hf := hidden (faultIs_at A c ga q wr2 (hS.out.below (hloww.out _ hlow.out) (Nat.le_refl _)) (by have := hc3.out; omega) (hat.below (hkeepw.out _ hlow.out)))
                  have e2 : wr2.cell? ⟨g, 2, none⟩ = some (.int .i64 (101 + (c : Int))) := hR.c2
                  have e3 : wr2.cell? ⟨g, 3, none⟩ = some (.bool true) := hR.c3
                  have e4 : wr2.cell? ⟨g, 4, none⟩ = some (.int .i64 (q : Int)) := hR.c4
                  have hend := hidden (hloww.out _ hlow.out)
                  clear hR hown hkeep hat hu hcode hlow
                  go_wp2_with fail
                  refine hOk.out.mono ?_
                  rintro e wX ⟨rfl, rfl⟩
                  go_wp2_with fail
                  refine hOk.out.mono ?_
                  rintro e wX ⟨rfl, rfl⟩
                  go_wp2_with fail
                  refine (same_same _ _ _ _ wr2 hf.out).mono ?_
                  rintro e wY ⟨rfl, hb⟩
                  have hbY := hidden (hend.out.trans (hb.mono hend.out.size))
                  clear hb
                  go_wp2_with fail
                  refine (sameLongs_same _ _ [] wY (Reads.nil _ _) (Reads.nil _ _) (by decide)).mono ?_
                  rintro e wZ ⟨rfl, mz, rfl⟩
                  go_wp2
                  go_ret
                  exact ⟨rfl, below_drewN hbY.out⟩
                | none =>
                  have hOk := hidden (fun m => refROk_any (wr2.drewN m) g _ bs q none (hR.below ⟨rfl, rfl, rfl, Nat.le_refl _, fun _ _ => rfl⟩))
                  have hLf := hidden (refRLeft_any wr2 g _ bs q none hR (by have := l2.out; omega))
                  have hqb := hidden hR.le
                  have hbsI : (bs.length : Int) ≤ 100 := by have := l2.out; omega
                  by_cases hlast : q < bs.length
                  · have hltq : (0 : Int) < (bs.length : Int) - (q : Int) := by omega
                    rw [show unp bs k = .inr (1, q) by rw [hu.out]; simp only; rw [if_pos hlast]] at hkeep
                    obtain ⟨rfl, ga, rfl, hat⟩ := hkeep.out
                    have hFl := hidden (fun m => refFail_any (wr2.drewN m) g _ bs q 1 (hR.below ⟨rfl, rfl, rfl, Nat.le_refl _, fun _ _ => rfl⟩))
                    have e1 := hR.c1
                    have hgl := hidden hR.lt
                    replace hat := hidden hat
                    clear hR hown hkeep hu hcode hlast
                    go_wp2_with fail
                    refine (hOk.out 0).mono ?_
                    rintro e wX ⟨rfl, hwX⟩
                    obtain rfl : wr2 = wX := hwX
                    go_wp2_with fail
                    refine hLf.out.mono ?_
                    rintro e wX ⟨rfl, ml, rfl⟩
                    go_wp2_with fail
                    refine (hFl.out ml).mono ?_
                    rintro e wF ⟨rfl, hRF, htF⟩
                    have hlowF := hidden ((below_drewN (m := ml) hlow.out).trans (htF.below (B := g) (fun j hj => by omega) (Nat.le_of_lt hgl.out)))
                    have hOk2 := hidden (refROk_any wF g _ bs q (some 1) hRF)
                    have hf := hidden (faultIs_at A 1 ga q wF (hS.out.below (hloww.out _ hlowF.out) (Nat.le_refl _)) (by decide) (hat.out.below (hkeepw.out _ hlowF.out)))
                    have e2 : wF.cell? ⟨g, 2, none⟩ = some (.int .i64 (101 + ((1 : Nat) : Int))) := hRF.c2
                    have e3 : wF.cell? ⟨g, 3, none⟩ = some (.bool true) := hRF.c3
                    have e4 : wF.cell? ⟨g, 4, none⟩ = some (.int .i64 (q : Int)) := hRF.c4
                    have hend := hidden (hloww.out _ hlowF.out)
                    clear hRF htF hat hlow hlowF hFl e1
                    go_wp2_with fail
                    refine hOk2.out.mono ?_
                    rintro e wX ⟨rfl, rfl⟩
                    go_wp2_with fail
                    refine (same_same _ _ _ _ wF hf.out).mono ?_
                    rintro e wY ⟨rfl, hb⟩
                    have hbY := hidden (hend.out.trans (hb.mono hend.out.size))
                    clear hb
                    go_wp2_with fail
                    refine (sameLongs_same _ _ [] wY (Reads.nil _ _) (Reads.nil _ _) (by decide)).mono ?_
                    rintro e wZ ⟨rfl, mz, rfl⟩
                    go_wp2
                    go_ret
                    exact ⟨rfl, below_drewN hbY.out⟩
                  · have hltq : ¬ (0 : Int) < (bs.length : Int) - (q : Int) := by omega
                    rw [show unp bs k = .inl vs by rw [hu.out]; simp only; rw [if_neg hlast]] at hkeep
                    obtain ⟨rfl, hm⟩ := hkeep.out
                    have e2 : ∀ m, (wr2.drewN m).cell? ⟨g, 2, none⟩ = some (.int .i64 0) := fun m => hR.c2
                    have e3 : ∀ m, (wr2.drewN m).cell? ⟨g, 3, none⟩ = some (.bool false) := fun m => hR.c3
                    have e4 : ∀ m, (wr2.drewN m).cell? ⟨g, 4, none⟩ = some (.int .i64 0) := fun m => hR.c4
                    have hrn := hidden (fun m => show Reads .i64 (wr2.drewN m) _ vs from reads_of_own (k := .i64) (by rw [← hvl.out] at hown; exact hown))
                    have hrm := hidden (hm.below (hkeepw.out _ hlow.out) (Nat.le_refl _))
                    have hend := hidden (hloww.out _ hlow.out)
                    clear hR hown hkeep hu hcode hlast hm hlow
                    go_wp2_with fail
                    refine (hOk.out 0).mono ?_
                    rintro e wX ⟨rfl, hwX⟩
                    obtain rfl : wr2 = wX := hwX
                    go_wp2_with fail
                    refine hLf.out.mono ?_
                    rintro e wX ⟨rfl, ml, rfl⟩
                    go_wp2_with fail
                    refine (hOk.out ml).mono ?_
                    rintro e wX ⟨rfl, hwX⟩
                    obtain rfl := hwX
                    go_wp2_with fail
                    refine (same_same _ _ _ _ (wr2.drewN ml) (faultIs_nil _)).mono ?_
                    rintro e wY ⟨rfl, hb⟩
                    have hbY := hidden ((below_drewN (m := ml) hend.out).trans (hb.mono hend.out.size))
                    have hn1 := hidden ((hrn.out ml).below hb (Nat.le_refl _))
                    have hn2 := hidden ((show Reads .i64 (wr2.drewN ml) m vs from hrm.out).below hb (Nat.le_refl _))
                    clear hb e2 e3 e4
                    go_wp2_with fail
                    refine (sameLongs_same _ _ vs wY hn2.out hn1.out (by have := hvl.out; omega)).mono ?_
                    rintro e wZ ⟨rfl, mz, rfl⟩
                    go_wp2
                    go_ret
                    exact ⟨rfl, below_drewN hbY.out⟩
          · have hnn := hidden (show n < 0 ∨ 64 < n by omega)
            have hU := hidden (unpack_out A _ bs n wT (hbs.out.below hbT.out (Nat.le_refl _)) hnn.out ((hS.out.below hbT.out (Nat.le_refl _)).on [2] (by simp)))
            have hw : decide (n < 0) = true ∨ (decide (n < 0) = false ∧ decide (64 < n) = true) := by
              simp only [decide_eq_true_iff, decide_eq_false_iff_not]
              omega
            clear hn
            go_wp2_with fail
            refine hU.out.mono ?_
            rintro e wU ⟨rfl, mu, rfl⟩
            have hbU := hidden (below_drewN (m := mu) hbT.out)
            clear hU hbT
            rcases hw with d1 | ⟨d1, d2⟩
            all_goals
              go_wp2_with fail
              refine (is_same A 103 _ (hS.out.below hbU.out (Nat.le_refl _)) (Or.inr ⟨by decide, by decide⟩)).mono ?_
              rintro e wY ⟨rfl, hb⟩
              have hbY := hidden (hbU.out.trans (hb.mono hbU.out.size))
              clear hb
              go_wp2
              go_ret
              exact ⟨rfl, hbY.out⟩
end Go.Proofs.YtjmpmlacaoelgaaDoor
