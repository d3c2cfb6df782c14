/-
  FundSays.
-/
import Derived.Test.YtlanggdmdpjfbaaDoorFundRef
import Derived.Test.YtlanggdmdpjfbaaDoorFundLaw
import Derived.Test.YtlanggdmdpjfbaaDoorStressPlaysWalk
import Derived.Test.YtlanggdmdpjfbaaDoorShareSaysWalk
import Derived.Test.YtlanggdmdpjfbaaDoorLaidOn
import Derived.Deep.DeepCutAuto
namespace Go.Proofs.YtlanggdmdpjfbaaDoor
open Go Go.RowKit
set_option linter.unusedVariables false

theorem clC_code (n f c : Int) : codeOk (clC n f c) := by
  unfold clC codeOk
  split
  · exact .inl rfl
  · exact .inr ⟨by decide, by decide⟩
theorem siC_code (T : LTab) (f c : Int) (L : List Int) : codeOk (siC T f c L) := by
  unfold siC
  split
  · exact .inr ⟨by decide, by decide⟩
  · split
    · exact covC_codeOk T L
    · split
      · exact .inl rfl
      · exact shC_code _ _
theorem siL_len (T : LTab) (f c : Int) (L : List Int) : (siL T f c L).length ≤ L.length := by
  unfold siL
  split
  · rw [shL_len, wtL_len]; exact Nat.le_refl _
  · exact Nat.zero_le _
set_option maxRecDepth 100000 in
set_option maxHeartbeats 1600000 in
theorem same_any24 (f c t s : Int) (va vb : Value) (M : List Int) (w : World) (ha : Reads .i64 w va M) (hb : Reads .i64 w vb M) (hM : M.length ≤ 1000) :
    Calls Tryd.prog 14 #[fuA f c t s va, fuA f c t s vb] w fun e w' => e = .returned (.bool true) ∧ Below w.heap.size w w' := by
  obtain ⟨a1, c1, rfl⟩ := reads_slice ha
  obtain ⟨a2, c2, rfl⟩ := reads_slice hb
  have h1 := (Below.refl w.heap.size w).alloc (Nat.le_refl _) (fuO fuTy f c t s (.slice a1 M.length c1))
  have h2 := h1.alloc h1.size (fuO fuTyR f c t s (.slice a2 M.length c2))
  have hS := hidden (sameLongs_any _ _ M M _ (ha.below h2 (Nat.le_refl _)) (hb.below h2 (Nat.le_refl _)) (by omega))
  rw [decide_eq_true rfl] at hS
  replace h2 := hidden h2
  clear ha hb hM h1
  generalize M.length = ml at *
  go_enter Tryd.func14, Tryd.ntmps14
  go_wp2_with fail
  refine hS.out.mono ?_
  rintro e w1 ⟨rfl, m, rfl⟩
  clear hS
  go_wp2
  go_ret
  exact ⟨rfl, below_drewN h2.out⟩
def SyRel24 (N g h : Nat) (w0 : World) (i : Value) (w : World) : Prop :=
  ∃ (k : Nat) (T : LTab), k ≤ N ∧ i = .int .i64 (k : Int) ∧ LoAt w w0.heap.size g k T ∧ RlAt w h T ∧ Below w0.heap.size w0 w
def SgRel24 (N : Nat) (w0 : World) (i : Value) (w : World) : Prop := ∃ k : Nat, k ≤ N ∧ i = .int .i64 (k : Int) ∧ w0 = w
theorem mem_wF {L : List Int} (h : ∀ x ∈ L, -9223372036854775808 ≤ x ∧ x ≤ 9223372036854775807) : ∀ i, -9223372036854775808 ≤ wF L i ∧ wF L i ≤ 9223372036854775807 := fun i => by
  by_cases q : i < L.length
  · exact h _ (getI22_mem q)
  · rw [wF_over (Nat.le_of_not_lt q)]; decide
set_option maxRecDepth 100000 in
set_option maxHeartbeats 12800000 in
theorem walk_fundSays (v : Value) (l : List LossD) (f c : Int) (u : Value) (z : List Int) (n : Int) (vo : Value) (old : List Int) (A : Nat → Addr) (w : World) (hr : Row lossV 3 w v l) (hl : ∀ x ∈ l, LossBig x) (f0 : -9223372036854775808 ≤ f) (f1 : f ≤ 9223372036854775807) (c0 : -9223372036854775808 ≤ c) (c1 : c ≤ 9223372036854775807)
    (hz : Reads .i64 w u z) (hzb : ∀ x ∈ z, -9223372036854775808 ≤ x ∧ x ≤ 9223372036854775807) (n0 : -9223372036854775808 ≤ n) (n1 : n ≤ 9223372036854775807) (ho : Reads .i64 w vo old) (hob : ∀ x ∈ old, -9223372036854775808 ≤ x ∧ x ≤ 9223372036854775807) (hS : Sents w A) :
    Calls Tryd.prog 3 #[v, .int .i64 f, .int .i64 c, u, .int .i64 n, vo] w fun e w' => e = .returned (.bool true) ∧ Below w.heap.size w w' := by
  obtain ⟨va, vc, rfl⟩ := row_slice hr
  obtain ⟨za, zc, rfl⟩ := reads_slice hz
  obtain ⟨oa, oc, rfl⟩ := reads_slice ho
  have hE := hidden (hS.on [2, 3, 4, 5] (by decide))
  have hF := hidden (law24_first A w hE.out)
  clear f0 f1 c0 c1 n0 n1
  by_cases h60 : (60 : Int) < (l.length : Int)
  · have d1 : decide ((60 : Int) < (l.length : Int)) = true := decide_eq_true h60
    clear h60
    clear hr hl hz hzb ho hob hE hS
    go_enter Tryd.func3, Tryd.ntmps3
    go_wp2_with fail
    refine hF.out.mono ?_
    rintro r w1 ⟨rfl, hb⟩
    replace hb := hidden hb
    go_wp2
    go_ret
    exact ⟨rfl, hb.out⟩
  have d1 : decide ((60 : Int) < (l.length : Int)) = false := decide_eq_false h60
  by_cases h40 : (40 : Int) < (z.length : Int)
  · have d2 : decide ((40 : Int) < (z.length : Int)) = true := decide_eq_true h40
    clear h60 h40
    clear hr hl hz hzb ho hob hE hS
    go_enter Tryd.func3, Tryd.ntmps3
    go_wp2_with fail
    refine hF.out.mono ?_
    rintro r w1 ⟨rfl, hb⟩
    replace hb := hidden hb
    go_wp2
    go_ret
    exact ⟨rfl, hb.out⟩
  have d2 : decide ((40 : Int) < (z.length : Int)) = false := decide_eq_false h40
  by_cases h41 : (40 : Int) < (old.length : Int)
  · have d3 : decide ((40 : Int) < (old.length : Int)) = true := decide_eq_true h41
    clear h60 h40 h41
    clear hr hl hz hzb ho hob hE hS
    go_enter Tryd.func3, Tryd.ntmps3
    go_wp2_with fail
    refine hF.out.mono ?_
    rintro r w1 ⟨rfl, hb⟩
    replace hb := hidden hb
    go_wp2
    go_ret
    exact ⟨rfl, hb.out⟩
  have d3 : decide ((40 : Int) < (old.length : Int)) = false := decide_eq_false h41
  have hl60 : l.length ≤ 60 := by omega
  have hz40 : z.length ≤ 40 := by omega
  have ho40 : old.length ≤ 40 := by omega
  have hx := hidden (fun k hk W (h : Below w.heap.size w W) => rowLo_at (hr.below lossV_len h (Nat.le_refl _)) k hk)
  have hzW := hidden (fun W (h : Below w.heap.size w W) => hz.below h (Nat.le_refl _))
  have hoW := hidden (fun W (h : Below w.heap.size w W) => ho.below h (Nat.le_refl _))
  have hI := hidden (fun k (hk : codeOk k) W (h : Below w.heap.size w W) => is_self A k W (hS.below h (Nat.le_refl _)) hk)
  have hzI := hidden (mem_wF hzb)
  have hoI := hidden (mem_wF hob)
  have hzz := losses_zero
  clear hr hl hz ho h60 h40 h41 hS hzb hob
  go_enter Tryd.func3, Tryd.ntmps3
  go_wp2_with fail
  refine hF.out.mono ?_
  rintro r w1 ⟨rfl, hb⟩
  obtain ⟨hn1, hn2⟩ := lnew22 hb
  have hn3 := rlAt_new (w1.alloc (.cells #[.map none] 27))
  have hsz : (w1.alloc (.cells #[.map none] 27)).heap.size = w1.heap.size + 1 := by simp
  rw [hsz] at hn3
  have hst := hidden (And.intro (hn1.below ((Below.refl _ _).alloc (Nat.le_refl _) (.cells (losC noL) 31)) (Nat.le_refl _)) (And.intro hn3 (hn2.alloc hn2.size (.cells (losC noL) 31))))
  have hgs := hidden hb.size
  clear hF hb hn1 hn2 hn3 hsz
  generalize losC noL = FZ at *
  go_wp2_with fail
  clear d1 d2 d3
  go_loopw [16] (fun i wr => SyRel24 l.length w1.heap.size (w1.heap.size + 1) w i wr) (fun i _ => l.length - (intOf i).toNat)
  case atStart => exact ⟨0, noL, Nat.zero_le _, rfl, hst.out.1, hst.out.2.1, hst.out.2.2⟩
  case round =>
    obtain ⟨k, T, hk, rfl, hL, hC, hb⟩ := hrel
    clear hst hzz
    have hne := hidden (show w1.heap.size + 1 ≠ w1.heap.size by omega)
    have hhi := hidden (show w.heap.size ≤ w1.heap.size + 1 by have := hgs.out; omega)
    generalize w1.heap.size + 1 = h at *
    generalize w1.heap.size = g at *
    by_cases hlt : k < l.length
    · obtain ⟨b, o, rfl, _⟩ := hx.out k hlt wr hb
      have hq := hidden (fun W (h2 : Below w.heap.size w W) => show LdS w b (o + k * 3) (l.getD k lossZ).s (l.getD k lossZ).m (l.getD k lossZ).x W by
        obtain ⟨b', o', e, q⟩ := hx.out k hlt _ h2
        simp only [Option.some.injEq, Addr.mk.injEq, and_true] at e
        obtain ⟨rfl, rfl⟩ := e
        exact ⟨q, h2⟩)
      have hlI : (k : Int) < (l.length : Int) := by omega
      have hk6 : k < 1000000 := by omega
      clear hx hI hzW hoW hzI hoI
      generalize l.getD k lossZ = e at *
      obtain ⟨es, em, ex⟩ := e
      simp only at hq
      have hs0 := hidden (hq.out _ hb.drew)
      have hLd := hidden (hL.same (w' := wr.drew) fun _ _ => rfl)
      have hCd := hidden (hC.block (w' := wr.drew) rfl)
      have hbd := hidden hb.drew
      have hSet := hidden (show Calls Tryd.prog 8 #[.pointer (some ⟨g, 0, none⟩), .agg #[.int .i64 es, .int .i64 em], .int .i64 ex] wr.drew (LoDone A w.heap.size g k T (es, em) ex wr.drew) from loSet_any A wr.drew w.heap.size g k T hLd.out hbd.out.size hk6 (es, em) ex ((hE.out.sub (ks := [2]) (by simp)).below hbd.out (Nat.le_refl _)))
      have hRef := hidden (fun W hC => refLoSet_any W h T es em ex hC)
      unfold LoDone at hSet
      unfold RefLoSetAt at hRef
      generalize setLT T (es, em) ex = T' at *
      generalize setLC (es, em) ex = cv at *
      clear hE hb hL hC
      go_wp2_with fail
      go_region_held3 (fun W => (W.cell? ⟨b, o + k * 3, none⟩ = some (.int .i64 es) ∧ W.cell? ⟨b, o + k * 3 + 1, none⟩ = some (.int .i64 em) ∧ W.cell? ⟨b, o + k * 3 + 2, none⟩ = some (.int .i64 ex)) ∧ Below w.heap.size w W)
        ((first | exact hs0.out | assumption | exact ldS_lo hq.out (by assumption) hLd.out ht5))
        ((go_at_call 8; (with_reducible refine hSet.out.mono ?_); rintro e' w' ⟨rfl, hL5, ht5⟩))
      rename_i hh
      have hb5 := hidden (ldS_low hh)
      have hC5 := hidden (hCd.out.lo22 hLd.out ht5 hne.out)
      have hC6 := hidden (hC5.out.block (w' := w'.drew) rfl)
      have hL6 := hidden (hL5.same (w' := w'.drew) fun _ _ => rfl)
      have hs1 := hidden (hq.out _ hb5.out.drew)
      have hRef1 := hidden (hRef.out _ hC6.out)
      clear hh hs0 hSet hRef hL5 ht5 hLd hCd hbd hC5
      go_wp2_with fail
      go_region_held3 (fun W => (W.cell? ⟨b, o + k * 3, none⟩ = some (.int .i64 es) ∧ W.cell? ⟨b, o + k * 3 + 1, none⟩ = some (.int .i64 em) ∧ W.cell? ⟨b, o + k * 3 + 2, none⟩ = some (.int .i64 ex)) ∧ Below w.heap.size w W)
        ((first | exact hs1.out | assumption | exact ldS_trd hq.out (by assumption) ht6 hhi.out))
        ((go_at_call 9; (with_reducible refine hRef1.out.mono ?_); rintro e2 w6 ⟨rfl, hC7, ht6⟩))
      rename_i hh
      have hend := hidden (ldS_low hh)
      have hL7 := hidden (hL6.out.other ht6 hne.out hC6.out.row)
      replace hC7 := hidden hC7
      clear hh hs1 hRef1 hL6 hC6 ht6 hb5
      go_wp2
      go_roundw
      case rel => exact ⟨k + 1, T', hlt, by go_num, hL7.out, hC7.out, hend.out⟩
      case measure => simp [intOf]; omega
    · obtain rfl : k = l.length := by omega
      have hsc := hidden (siC_code T f c z)
      have hcc := hidden (clC_code n f c)
      have hml := hidden (siL_len T f c z)
      have kA := hidden (size_any24 A wr _ _ _ _ hL f c _ z (hzW.out wr hb) (hE.out.below hb (Nat.le_refl _)))
      have kB := hidden (fun W (hW : Below wr.heap.size wr W) => refSize_any24 W h T (hC.below hW) f c _ z (hzW.out W (hb.trans (hW.mono hb.size))))
      have kC := hidden (fun W (hW : Below w.heap.size w W) => clamp_any24 A n f c W ((hE.out.sub (ks := [2]) (by simp)).below hW (Nat.le_refl _)))
      have kD := hidden (fun W => refClamp_any24 n f c W)
      unfold SzAt24 at kA
      unfold RzAt24 at kB
      have hI1 := hidden (fun W hW => hI.out _ hsc.out W hW)
      have hI2 := hidden (fun W hW => hI.out _ hcc.out W hW)
      have hbk := hidden hb
      clear hI hx hL hC hlt hk hgs hhi hne hsc hcc hb
      generalize siC T f c z = q1 at *
      generalize clC n f c = q2 at *
      generalize clV n f c = y2 at *
      generalize siN T f c z f = m1 at *
      generalize siN T f c z c = m2 at *
      generalize siN T f c z (siW T f c z) = m3 at *
      generalize siN T f c z (covR T z).s = m4 at *
      generalize siL T f c z = M at *
      go_wp2_with fail
      (with_reducible refine kA.out.mono ?_)
      rintro e w3 ⟨va3, rfl, hva, _, hb3⟩
      obtain ⟨a3, c3, rfl⟩ := reads_slice hva
      have h40 := hml.out
      generalize hm5 : M.length = ml at *
      replace hm5 := hidden hm5
      have hA3 := (Below.refl w3.heap.size w3).alloc (Nat.le_refl _) (fuO fuTy m1 m2 m3 m4 (.slice a3 ml c3))
      have hF4 := heap_alloc_new w3 (fuO fuTy m1 m2 m3 m4 (.slice a3 ml c3))
      have hva4 := hva.below hA3 (Nat.le_refl _)
      have hb4 := hb3.trans (hA3.mono hb3.size)
      have kB1 := hidden (kB.out _ hb4)
      replace hb4 := hidden (hbk.out.trans (hb4.mono hbk.out.size))
      clear kA kB hva hA3 hb3
      go_wp2_with fail
      generalize w3.alloc (fuO fuTy m1 m2 m3 m4 (.slice a3 ml c3)) = w4 at *
      generalize w3.heap.size = Fa at *
      (with_reducible refine kB1.out.mono ?_)
      rintro e w5 ⟨vb5, rfl, hvb, _, hb5⟩
      obtain ⟨a5, c5, rfl⟩ := reads_slice hvb
      rw [hm5.out]
      rw [hm5.out] at hvb
      have hA5 := (Below.refl w5.heap.size w5).alloc (Nat.le_refl _) (fuO fuTyR m1 m2 m3 m4 (.slice a5 ml c5))
      have hF6 := heap_alloc_new w5 (fuO fuTyR m1 m2 m3 m4 (.slice a5 ml c5))
      have hvb6 := hvb.below hA5 (Nat.le_refl _)
      have hb56 := hb5.trans (hA5.mono hb5.size)
      have hF46 := row_later24 hF4 hb56
      have hva6 := hva4.below hb56 (Nat.le_refl _)
      replace hb4 := hidden (hb4.out.trans (hb56.mono hb4.out.size))
      clear kB1 hvb hA5 hb5 hva4 hF4 hb56
      have kC1 := hidden (kC.out _ hb4.out)
      go_wp2_with fail
      generalize w5.alloc (fuO fuTyR m1 m2 m3 m4 (.slice a5 ml c5)) = w6 at *
      generalize w5.heap.size = Fb at *
      (with_reducible refine kC1.out.mono ?_)
      rintro e w7 ⟨rfl, k7, rfl⟩
      have hF7 : (w6.drewN k7).heap[Fa]? = some (fuO fuTy m1 m2 m3 m4 (.slice a3 ml c3)) := hF46
      have hG7 : (w6.drewN k7).heap[Fb]? = some (fuO fuTyR m1 m2 m3 m4 (.slice a5 ml c5)) := hF6
      have hva7 : Reads .i64 (w6.drewN k7) (.slice a3 ml c3) M := hva6.same fun _ _ => rfl
      have hvb7 : Reads .i64 (w6.drewN k7) (.slice a5 ml c5) M := hvb6.same fun _ _ => rfl
      replace hb4 := hidden (below_drewN (m := k7) hb4.out)
      clear kC kC1 hF46 hF6 hva6 hvb6
      have kS := hidden (same_any24 m1 m2 m3 m4 _ _ M _ hva7 hvb7 (by rw [hm5.out]; omega))
      obtain ⟨⟨y0, y1, y2', y3, y4⟩, _⟩ := fu_cells hF7
      obtain ⟨⟨x0, x1, x2, x3, x4⟩, _⟩ := fu_cells hG7
      generalize w6.drewN k7 = w8 at *
      clear hva7 hvb7 hF7 hG7
      go_wp2_with fail
      (with_reducible refine (kD.out _).mono ?_)
      rintro e w9 ⟨rfl, rfl⟩
      clear kD
      go_wp2_with fail
      (with_reducible refine kS.out.mono ?_)
      rintro e w10 ⟨rfl, hb10⟩
      replace hb4 := hidden (hb4.out.trans (hb10.mono hb4.out.size))
      clear kS hb10 y0 y1 y2' y3 y4 x0 x1 x2 x3 x4
      go_wp2_with fail
      (with_reducible refine (hI1.out _ hb4.out).mono ?_)
      rintro e w11 ⟨rfl, hb11⟩
      replace hb4 := hidden (hb4.out.trans (hb11.mono hb4.out.size))
      clear hI1 hb11
      go_wp2_with fail
      (with_reducible refine (hI2.out _ hb4.out).mono ?_)
      rintro e w12 ⟨rfl, hb12⟩
      replace hb4 := hidden (hb4.out.trans (hb12.mono hb4.out.size))
      clear hI2 hb12
      have hCa := hidden (calls_any24 _ _ old z w12 (hoW.out w12 hb4.out) (hzW.out w12 hb4.out) (by omega) (by omega) hoI.out hzI.out)
      unfold CaAt24 at hCa
      have hmx : max (old.length : Int) (z.length : Int) = (cfN old z : Int) := by unfold cfN; omega
      have hN40 : (cfN old z : Int) ≤ 40 := by unfold cfN; omega
      have hlen := hidden (cfL_len old z)
      have hval := hidden (fun i (hi : i < cfN old z) => show (cfL old z).getD i 0 = abX (wF z i) (wF old i) from cfL_at hi)
      have hcov := hidden (show ∀ i, i < cfN old z → i < old.length ∨ i < z.length from fun i hi => by unfold cfN at hi; omega)
      generalize cfN old z = N at *
      go_wp2_with fail
      (with_reducible refine hCa.out.mono ?_)
      rintro e w13 ⟨v3, rfl, hv3, _, hb13⟩
      obtain ⟨a9, c9, rfl⟩ := reads_slice hv3
      replace hb4 := hidden (hb4.out.trans (hb13.mono hb4.out.size))
      have hx1 := hidden (fun i hi => (hoW.out w13 hb4.out).cell i hi)
      have hx2 := hidden (fun i hi => (hzW.out w13 hb4.out).cell i hi)
      have hx3 := hidden (fun i hi => hv3.cell i hi)
      rw [hlen.out] at hx3
      rw [hlen.out]
      clear hCa hb13 hoW hzW hv3 hE hm5 h40 hml
      go_wp2_with fail
      go_loopw [26] (fun i wr => SgRel24 N w13 i wr) (fun i _ => N - (intOf i).toNat)
      case atStart => exact ⟨0, Nat.zero_le _, rfl, rfl⟩
      case round =>
        obtain ⟨k, hk, rfl, rfl⟩ := hrel
        by_cases hlt : k < N
        · have hlI : (k : Int) < (N : Int) := by omega
          obtain ⟨b3, o3, rfl, q3⟩ := hx3.out k hlt
          rw [hval.out k hlt] at q3
          have hcv := hcov.out k hlt
          have hzb := hzI.out k
          have hob := hoI.out k
          by_cases k1 : k < old.length
          · have k1I : (k : Int) < (old.length : Int) := by omega
            obtain ⟨b1, o1, rfl, q1⟩ := hx1.out k k1
            rw [show old.getD k 0 = wF old k from rfl] at q1
            by_cases k2 : k < z.length
            · have k2I : (k : Int) < (z.length : Int) := by omega
              obtain ⟨b2, o2, rfl, q2⟩ := hx2.out k k2
              rw [show z.getD k 0 = wF z k from rfl] at q2
              generalize hy : abX (wF z k) (wF old k) = y at *
              have hab := hidden (fun (p1 : 0 ≤ wF z k) (p2 : 0 ≤ wF old k) => hy.symm.trans (abX_small p1 p2 hzb.2))
              clear hval hcov hx1 hx2 hx3 hcv hoI hzI hmx hy
              generalize wF old k = x at *
              generalize wF z k = s at *
              by_cases p1 : 0 ≤ x
              · have r1 : decide (0 ≤ x) = true := decide_eq_true p1
                by_cases p2 : 0 ≤ s
                · have r2 : decide (0 ≤ s) = true := decide_eq_true p2
                  obtain ⟨dd, hdd⟩ : ∃ dd, dd = s - x := ⟨_, rfl⟩
                  have hw1 : IntKind.i64.wrap (s - x) = dd := by rw [IntKind.wrap_i64, hdd]; omega
                  have hms : max 0 dd = y := by rw [hab.out p2 p1, hdd]
                  clear hab p1 p2 hdd hzb hob
                  go_wp2
                  all_goals
                    go_roundw
                    case rel => exact ⟨k + 1, hlt, by go_num, rfl⟩
                    case measure => simp [intOf]; omega
                · have r2 : decide (0 ≤ s) = false := decide_eq_false p2
                  clear hab p1 p2 hzb hob
                  go_wp2
                  all_goals
                    go_roundw
                    case rel => exact ⟨k + 1, hlt, by go_num, rfl⟩
                    case measure => simp [intOf]; omega
              · have r1 : decide (0 ≤ x) = false := decide_eq_false p1
                clear hab p1 hzb hob
                go_wp2
                all_goals
                  go_roundw
                  case rel => exact ⟨k + 1, hlt, by go_num, rfl⟩
                  case measure => simp [intOf]; omega
            · have k2I : ¬ (k : Int) < (z.length : Int) := by omega
              have hz0 : wF z k = 0 := wF_over (Nat.le_of_not_lt k2)
              rw [hz0] at q3
              generalize hy : abX 0 (wF old k) = y at *
              have hab := hidden (fun (p2 : 0 ≤ wF old k) => hy.symm.trans (abX_small (by decide) p2 (by decide)))
              clear hval hcov hx1 hx2 hx3 hcv hoI hzI hmx hy hz0 hzb
              generalize wF old k = x at *
              by_cases p1 : 0 ≤ x
              · have r1 : decide (0 ≤ x) = true := decide_eq_true p1
                have hy0 : y = 0 := by rw [hab.out p1]; omega
                subst hy0
                have hw1 : IntKind.i64.wrap (-x) = -x := by rw [IntKind.wrap_i64]; omega
                have hw2 : wrap64 (-x) = -x := by unfold wrap64; omega
                have hms : max 0 (-x) = 0 := by omega
                clear hab p1 hob
                go_wp2
                all_goals
                  clear hw2
                  go_roundw
                  case rel => exact ⟨k + 1, hlt, by go_num, rfl⟩
                  case measure => simp [intOf]; omega
              · have r1 : decide (0 ≤ x) = false := decide_eq_false p1
                clear hab p1 hob
                go_wp2
                all_goals
                  go_roundw
                  case rel => exact ⟨k + 1, hlt, by go_num, rfl⟩
                  case measure => simp [intOf]; omega
          · have k1I : ¬ (k : Int) < (old.length : Int) := by omega
            have k2 : k < z.length := by omega
            have k2I : (k : Int) < (z.length : Int) := by omega
            obtain ⟨b2, o2, rfl, q2⟩ := hx2.out k k2
            rw [show z.getD k 0 = wF z k from rfl] at q2
            have hz0 : wF old k = 0 := wF_over (Nat.le_of_not_lt k1)
            rw [hz0] at q3
            generalize hy : abX (wF z k) 0 = y at *
            have hab := hidden (fun (p1 : 0 ≤ wF z k) => hy.symm.trans (abX_small p1 (by decide) hzb.2))
            clear hval hcov hx1 hx2 hx3 hcv hoI hzI hmx hy hz0 hob
            generalize wF z k = s at *
            by_cases p2 : 0 ≤ s
            · have r2 : decide (0 ≤ s) = true := decide_eq_true p2
              have hys : y = s := by rw [hab.out p2]; omega
              subst hys
              have hw1 : IntKind.i64.wrap y = y := by rw [IntKind.wrap_i64]; omega
              have hw2 : wrap64 y = y := by unfold wrap64; omega
              have hms : max 0 y = y := by omega
              clear hab p2 hzb
              go_wp2
              all_goals
                clear hw2
                go_roundw
                case rel => exact ⟨k + 1, hlt, by go_num, rfl⟩
                case measure => simp [intOf]; omega
            · have r2 : decide (0 ≤ s) = false := decide_eq_false p2
              clear hab p2 hzb
              go_wp2
              all_goals
                go_roundw
                case rel => exact ⟨k + 1, hlt, by go_num, rfl⟩
                case measure => simp [intOf]; omega
        · obtain rfl : k = N := by omega
          clear hval hcov hx1 hx2 hx3 hoI hzI hlt hk
          go_wp2
          all_goals
            go_ret
            exact ⟨rfl, hb4.out⟩
end Go.Proofs.YtlanggdmdpjfbaaDoor
