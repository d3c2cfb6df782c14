/-
  The document's own Size.
-/
import Derived.Test.YtlanggdmdpjfbaaDoorFund3
import Derived.Test.YtlanggdmdpjfbaaDoorStressRef
import Derived.Test.YtlanggdmdpjfbaaDoorShareRef
import Derived.Test.YtlanggdmdpjfbaaDoorShareDo
import Derived.Deep.CutBlock
import Derived.Deep.DeepCutAuto
namespace Go.Proofs.YtlanggdmdpjfbaaDoor
open Go Go.RowKit
set_option linter.unusedVariables false

abbrev fuTyR : TypeId := 45
theorem fuR_size : (Tryd.prog.info? fuTyR).map (·.size) = some 5 := by kernel_rfl
theorem fuR_end {a : Act} {w : World} {fn : Func} {R : Ending → World → Prop} {p u : Tmp} {g : Nat} {v vb : Value} {f c t s : Int}
    (h : fn.results = #[.cell p fuTyR, .tmp u]) (hd : a.defers = []) (hp : a.tmps.getD p undef = .pointer (some ⟨g, 0, none⟩)) (hb : a.tmps.getD u undef = vb) (hg : w.heap[g]? = some (fuO fuTyR f c t s v))
    (hR : R (.returned (.tuple #[fuA f c t s v, vb])) w) : bodyPost Tryd.prog fn R .ret a w := by
  subst hb
  exact bodyPost_ret (results_cell2 h _ _ _ _ _ _ _ hp hg Tryd.underlying45 rfl fuR_size) hd hR
def RzAt24 (T : LTab) (f c : Int) (L : List Int) (w : World) (e : Ending) (w' : World) : Prop :=
  ∃ v', e = .returned (.tuple #[fuA (siN T f c L f) (siN T f c L c) (siN T f c L (siW T f c L)) (siN T f c L (covR T L).s) v', .int .i64 (siC T f c L)]) ∧ Reads .i64 w' v' (siL T f c L) ∧ (∀ b, v'.ownBlock = some b → w.heap.size ≤ b) ∧ Below w.heap.size w w'
def SuRel24 (L : List Int) (w0 : World) (a i : Value) (w : World) : Prop := ∃ k : Nat, k ≤ L.length ∧ i = .int .i64 (k : Int) ∧ a = .int .i64 (suF (wF L) k) ∧ w0 = w
def WtRel24 (N : Nat) (w0 : World) (a i : Value) (w : World) : Prop := ∃ k : Nat, k ≤ N ∧ i = .int .i64 (k : Int) ∧ w.ownsRow w0.heap.size 2 1 a k ((List.replicate k (1 : Int)).map (Value.int .i64)) ∧ Below w0.heap.size w0 w
theorem wt_bd {L : List Int} (h : AllAm L) : ∀ i, i < (wtL L).length → -9223372036854775808 ≤ wF (wtL L) i ∧ wF (wtL L) i ≤ 9223372036854775807 := fun i hi => by
  rw [wtL_len] at hi
  unfold wtL
  split
  · rw [ones_at hi]; decide
  · have := am_allW h i hi
    unfold am23 at this
    omega
set_option maxRecDepth 100000 in
set_option maxHeartbeats 3200000 in
theorem refSize_any24 (w : World) (g : Nat) (T : LTab) (h : RlAt w g T) (f c : Int) (v : Value) (L : List Int) (hr : Reads .i64 w v L) :
    Calls Tryd.prog 11 #[.pointer (some ⟨g, 0, none⟩), .int .i64 f, .int .i64 c, v] w (RzAt24 T f c L w) := by
  unfold RzAt24
  have hb1 := (Below.refl w.heap.size w).alloc (Nat.le_refl _) (fuO fuTyR 0 0 0 0 (.slice none 0 0))
  have hbW := hidden (fun W (hW : Below (w.alloc (fuO fuTyR 0 0 0 0 (.slice none 0 0))).heap.size (w.alloc (fuO fuTyR 0 0 0 0 (.slice none 0 0))) W) => hb1.trans (hW.mono hb1.size))
  have hz : (w.alloc (fuO fuTyR 0 0 0 0 (.slice none 0 0))).heap[w.heap.size]? = some (fuO fuTyR 0 0 0 0 (.slice none 0 0)) := heap_alloc_new w _
  have hzW := hidden (fun W (hW : Below (w.alloc (fuO fuTyR 0 0 0 0 (.slice none 0 0))).heap.size (w.alloc (fuO fuTyR 0 0 0 0 (.slice none 0 0))) W) => row_later24 hz hW)
  have hC0 := hidden (fun W => refClamp_any24 0 f c W)
  have hC1 := hidden (fun W => refClamp_any24 (covR T L).v f c W)
  have hCov := hidden (fun W hW => refCover_any W g T (h.below (hbW.out W hW)) v L (hr.below (hbW.out W hW) (Nat.le_refl _)))
  have hcv := hidden (fun h => clC_fine.2 (show bdOk (covR T L).v f c from ⟨cov_v T L, (clC_fine.1 h : bdOk 0 f c).2⟩))
  have hwe : clV (covR T L).v f c = siW T f c L := rfl
  rw [hwe] at hC1
  clear hwe
  have hrW := hidden (fun W hW => hr.below (hbW.out W hW) (Nat.le_refl _))
  obtain ⟨a1, c1, rfl⟩ := reads_slice hr
  have hsi := hidden (fun h1 h2 => sl_si (T := T) (f := f) (c := c) (L := L) h1 h2)
  by_cases h1 : clC 0 f c = 0
  · replace hcv := hcv.out h1
    rw [h1] at hC0
    rw [hcv] at hC1
    by_cases h2 : (covR T L).c = 0
    · obtain ⟨e1, e2⟩ := hsi.out h1 h2
      obtain ⟨ham, h32⟩ := cov_am h2
      have htb := hidden (clV_bd (covR T L).v f c)
      have hwe : clV (covR T L).v f c = siW T f c L := rfl
      rw [hwe] at htb
      rw [h2] at hCov
      have hN := hidden (fun q => si_good (T := T) (f := f) (c := c) (L := L) (by rw [e1]; exact q))
      have hB := hidden (fun q => si_bad (T := T) (f := f) (c := c) (L := L) (by rw [e1]; exact q))
      replace e1 := hidden e1
      replace e2 := hidden e2
      clear hsi hcv h1 h2 hr h hb1 hz hwe
      generalize hgs : siW T f c L = t at *
      clear hgs
      generalize clV 0 f c = t0 at *
      generalize (covR T L).v = cv at *
      generalize (covR T L).s = sc at *
      go_enter Tryd.func11, Tryd.ntmps11
      go_wp2_with fail
      (with_reducible refine (hC0.out _).mono ?_)
      rintro e w2 ⟨rfl, rfl⟩
      clear hC0
      go_wp2_with fail
      (with_reducible refine (hCov.out _ (Below.refl _ _)).mono ?_)
      rintro e w3 ⟨rfl, hb3⟩
      have hsz3 := hb3.size
      replace hb3 := hidden hb3
      clear hCov
      go_wp2_with fail
      (with_reducible refine (hC1.out _).mono ?_)
      rintro e w4 ⟨rfl, rfl⟩
      clear hC1
      go_upto_region 9 with (fail)
      have hFn := heap_alloc_new w3 (fuO fuTyR f c t sc (.slice none 0 0))
      have hFlt : w.heap.size < w3.heap.size := Nat.lt_of_lt_of_le (by simp) hsz3
      have hb4 := hidden (hb3.out.alloc hsz3 (fuO fuTyR f c t sc (.slice none 0 0)))
      clear hsz3 hb3
      generalize w3.alloc (fuO fuTyR f c t sc (.slice none 0 0)) = wA at *
      generalize w3.heap.size = F at *
      have hFR : ¬ F = w.heap.size := by omega
      have hFR2 : ¬ w.heap.size = F := by omega
      have hFW := hidden (fun W (hW : Below wA.heap.size wA W) => row_later24 hFn hW)
      have hAW := hidden (fun W (hW : Below wA.heap.size wA W) => hb4.out.trans (hW.mono hb4.out.size))
      have hFsz := hidden (Array.getElem?_eq_some_iff.1 hFn).1
      by_cases h0 : L.length = 0
      · have hsl : slC t L = 0 := if_pos h0
        have hsl2 : slL t L = [] := if_pos h0
        have hpay := hidden (show siL T f c L = [] from by rw [e2.out, hsl, if_pos rfl, hsl2])
        have heq := hidden (show Ending.returned (.tuple #[fuA f c t sc (.slice none 0 0), .int .i64 0]) = .returned (.tuple #[fuA (siN T f c L f) (siN T f c L c) (siN T f c L t) (siN T f c L sc) (.slice none 0 0), .int .i64 (siC T f c L)]) from by rw [e1.out, hsl, hN.out hsl, hN.out hsl, hN.out hsl, hN.out hsl])
        have hzz := hzW.out _ hb4.out
        obtain ⟨⟨z0, z1, z2, z3, z4⟩, hf⟩ := fu_cells hzz
        obtain ⟨⟨y0, y1, y2, y3, y4⟩, hf2⟩ := fu_cells hFn
        have hend := hidden (fu_put hzz f c t sc (.slice none 0 0))
        have hbe := hidden (fu_put_below (hbW.out _ hb4.out) (Nat.le_refl _) f c t sc (.slice none 0 0))
        have g0 := hf 0
        have g1 := hf 1
        have g2 := hf 2
        have g3 := hf 3
        have g4 := hf 4
        rw [h0]
        clear hf hzz hbW hzW hb4 hf2 hFn hFW hAW hrW hN hB e1 e2 hsl hsl2 ham h32 htb hFsz
        go_wp2_with fail
        exact fuR_end (g := w.heap.size) rfl rfl rfl rfl hend.out ⟨.slice none 0 0, heq.out, by rw [hpay.out]; exact Reads.nil _ _, own_nil23 _, hbe.out⟩
      · have h0I : ¬ (L.length : Int) = 0 := by omega
        have h0B : ((L.length : Int) == 0) = false := by simpa using h0
        have hsl : slC t L = shC t (wtL L) := if_neg h0
        have hsl2 : slL t L = spA t (wtL L) := if_neg h0
        have hx1 := hidden (fun i hi => (hrW.out wA hb4.out).cell i hi)
        have hallW := am_allW ham
        have hwl := hidden (fun k (hk : k < L.length) => show IntKind.i64.wrap (suF (wF L) k + wF L k) = suF (wF L) (k + 1) from by
          have h1 : 0 ≤ suF (wF L) k := suF_pos fun i hi => (hallW i (by omega)).1
          have h2 := (hallW k hk).1
          have h3 := (hallW k hk).2
          have h4 := suF_lt (f := wF L) (c := 1000000000000001) (k := k) fun i hi => by have := (hallW i (by omega)).2; omega
          have h5 : suF (wF L) (k + 1) = suF (wF L) k + wF L k := rfl
          rw [IntKind.wrap_i64, h5]; omega)
        have hS := hidden (fun W v' (hv' : Reads .i64 W v' (wtL L)) => refSplit_own23 t v' (wtL L) W (by have := htb.out; unfold am23 at this; omega) (by have := htb.out; unfold am23 at this; omega) hv' (wt_bd ham))
        unfold RefSpOwn23 at hS
        have hrA := hidden (hrW.out wA hb4.out)
        have hL32 : (L.length : Int) ≤ 32 := by omega
        have hwt := hidden (fun (q : smW L = 0) => show wtL L = List.replicate L.length 1 from if_pos q)
        have hwt2 := hidden (fun (q : ¬ smW L = 0) => show wtL L = L from if_neg q)
        clear hrW hb4 hallW ham h0 htb hFn
        go_wp2_with fail
        go_loopw [16, 17] (fun a i wr => SuRel24 L wA a i wr) (fun _ i _ => L.length - (RowKit.intOf i).toNat)
        case atStart => exact ⟨0, Nat.zero_le _, rfl, rfl, rfl⟩
        case round =>
          obtain ⟨k, hk, rfl, rfl, rfl⟩ := hrel
          by_cases hlt : k < L.length
          · have hlI : (k : Int) < (L.length : Int) := by omega
            obtain ⟨b, o, rfl, q0⟩ := hx1.out k hlt
            rw [show L.getD k 0 = wF L k from rfl] at q0
            have hw1 := hwl.out k hlt
            generalize hsk : suF (wF L) (k + 1) = s1 at *
            replace hsk := hidden hsk
            generalize suF (wF L) k = s0 at *
            generalize wF L k = x at *
            clear hS hN hB hFW hAW hwt hwt2 e1 e2 hsl hsl2
            go_wp2_with fail
            go_roundw
            case rel => exact ⟨k + 1, hlt, by go_num, by rw [hsk.out], rfl⟩
            case measure => simp [RowKit.intOf]; omega
          · obtain rfl : k = L.length := by omega
            rw [show suF (wF L) L.length = smW L from rfl]
            clear hwl hx1
            obtain ⟨bs, hq⟩ : ∃ bs, (smW L == 0) = bs := ⟨_, rfl⟩
            go_upto_if 71 with (fail)
            replace hq := hidden hq
            go_cut [18] (fun v wx => Reads .i64 wx v (wtL L) ∧ Below wA.heap.size wA wx)
            case first =>
              as_aux_lemma =>
                clear hS hN hB hFW hAW e1 e2 hsl hsl2 hzW hbW
                cases bs with
                | true =>
                  have hw1 := hidden (hwt.out (by simpa using hq.out))
                  clear hwt hwt2 hq hrA
                  go_wp2_with fail
                  go_loopw [18, 19] (fun a i wr => WtRel24 L.length wA a i wr) (fun _ i _ => L.length - (RowKit.intOf i).toNat)
                  case atStart => exact ⟨0, Nat.zero_le _, rfl, World.ownsRow_nil _ _ _ _, Below.refl _ _⟩
                  case round =>
                    obtain ⟨k, hk, rfl, hv, hbx⟩ := hrel
                    by_cases hlt : k < L.length
                    · have hkI : (k : Int) < (L.length : Int) := by omega
                      have hk8 : k ≤ 1099511627776 := by omega
                      have hrp := hidden (show List.replicate (k + 1) (1 : Int) = List.replicate k 1 ++ [1] from List.replicate_succ')
                      generalize List.replicate k (1 : Int) = L3 at *
                      replace hv := hidden hv
                      have hbs := hidden hbx.size
                      replace hbx := hidden hbx
                      go_wp2_with (at_builtin; refine wpList_app23 rfl _ _ 23 rfl 2 Tryd.underlying23 infoI23 rfl (by decide) wA.heap.size _ k (L3.map (Value.int .i64)) rfl hv.out (.int .i64 1) _ rfl (by simp) rfl hk8 hbs.out ?_)
                      intro v2 w5 hv2 hb6 _ _
                      replace hv2 := hidden hv2
                      have hbx2 := hidden (hbx.out.trans hb6)
                      clear hv hb6 hbx hbs
                      go_wp2
                      go_roundw
                      case rel => exact ⟨k + 1, hlt, by go_num, by rw [hrp.out, map_snoc23]; exact hv2.out, hbx2.out⟩
                      case measure => simp [RowKit.intOf]; omega
                    · obtain rfl : k = L.length := by omega
                      have rd := hidden (reads_of_own hv)
                      replace hbx := hidden hbx
                      clear hv
                      go_wp2
                      go_meet
                      exact ⟨by rw [hw1.out]; exact rd.out, hbx.out⟩
                | false =>
                  have hw1 := hidden (hwt2.out (by simpa using hq.out))
                  clear hwt hwt2 hq
                  go_wp2_with fail
                  go_meet
                  exact ⟨by rw [hw1.out]; exact hrA.out, Below.refl _ _⟩
            case rest =>
              obtain ⟨hv, hbc⟩ := hcut
              obtain ⟨⟨y0, y1, y2, y3, y4⟩, hf2⟩ := fu_cells (hFW.out _ hbc)
              have hS1 := hidden (hS.out _ _ hv)
              have hbA := hidden (hAW.out _ hbc)
              replace hbc := hidden hbc
              have hsl3 := hidden hsl
              have hsl4 := hidden hsl2
              have hFc := hidden (Nat.lt_of_lt_of_le hFsz.out hbc.out.size)
              clear hS hf2 hsl hsl2 hwt hwt2 hrA hv hFsz
              go_wp2_with fail
              (with_reducible refine hS1.out.mono ?_)
              rintro e w5 ⟨v5, rfl, hv5, ho5, hb5⟩
              obtain ⟨a5, c5, rfl⟩ := reads_slice hv5
              have hbc5 := hbc.out.trans (hb5.mono hbc.out.size)
              have hF5 := hFW.out _ hbc5
              have hR5 := hzW.out _ (hAW.out _ hbc5)
              have hb6 := hidden ((hAW.out _ hbc5).setCell (p := ⟨F, 4, none⟩) (by simp; omega) (.slice a5 (spA t (wtL L)).length c5))
              clear hS1 y0 y1 y2 y3 y4
              obtain ⟨⟨y0, y1, y2, y3, y4⟩, hf2⟩ := fu_cells hF5
              have f4 := hf2 4
              have hF6 : (w5.setCell ⟨F, 4, none⟩ (.slice a5 (spA t (wtL L)).length c5)).heap[F]? = some (fuO fuTyR f c t sc (.slice a5 (spA t (wtL L)).length c5)) := by rw [heap_setCell_row hF5]; rfl
              have hR6 : (w5.setCell ⟨F, 4, none⟩ (.slice a5 (spA t (wtL L)).length c5)).heap[w.heap.size]? = some (fuO fuTyR 0 0 0 0 (.slice none 0 0)) := by rw [Below.heap_setCell _ _ _ _ hFR2]; exact hR5
              have hv6 : Reads .i64 (w5.setCell ⟨F, 4, none⟩ (.slice a5 (spA t (wtL L)).length c5)) (.slice a5 (spA t (wtL L)).length c5) (spA t (wtL L)) := hv5.trd (Trd.setCell (S := (· = F)) w5 ⟨F, 4, none⟩ _ rfl) (fun b hb => by have := ho5 b hb; have := hFc.out; omega)
              have ho6 := hidden (show ∀ b, (Value.slice a5 (spA t (wtL L)).length c5).ownBlock = some b → w.heap.size < b from fun b hb => by have := ho5 b hb; have := hFc.out; omega)
              clear hf2 hF5 hR5 hv5 ho5 hb5 hbc5
              go_upto_region 24 with (fail)
              clear f4 y0 y1 y2 y3 y4
              generalize spA t (wtL L) = M at *
              generalize w5.setCell ⟨F, 4, none⟩ (.slice a5 M.length c5) = w6 at *
              obtain ⟨⟨z0, z1, z2, z3, z4⟩, hf⟩ := fu_cells hR6
              by_cases hc : shC t (wtL L) = 0
              · have q0 : slC t L = 0 := hsl3.out.trans hc
                have hpay := hidden (show siL T f c L = M from by rw [e2.out, q0, if_pos rfl]; exact hsl4.out)
                have heq := hidden (show Ending.returned (.tuple #[fuA f c t sc (.slice a5 M.length c5), .int .i64 0]) = .returned (.tuple #[fuA (siN T f c L f) (siN T f c L c) (siN T f c L t) (siN T f c L sc) (.slice a5 M.length c5), .int .i64 (siC T f c L)]) from by rw [e1.out, q0, hN.out q0, hN.out q0, hN.out q0, hN.out q0])
                rw [hc]
                obtain ⟨⟨y0, y1, y2, y3, y4⟩, hf2⟩ := fu_cells hF6
                have hend := hidden (fu_put hR6 f c t sc (.slice a5 M.length c5))
                have hbe := hidden (fu_put_below (hbW.out _ hb6.out) (Nat.le_refl _) f c t sc (.slice a5 M.length c5))
                have hre := hidden (show Reads .i64 (fuPut w6 w.heap.size f c t sc (.slice a5 M.length c5)) (.slice a5 M.length c5) (siL T f c L) from by rw [hpay.out]; exact hv6.trd (fu_put_trd w6 w.heap.size f c t sc (.slice a5 M.length c5)) (fun b hb => by have := ho6.out b hb; omega))
                have hob := hidden (show ∀ b, (Value.slice a5 M.length c5).ownBlock = some b → w.heap.size ≤ b from fun b hb => by have := ho6.out b hb; omega)
                have g0 := hf 0
                have g1 := hf 1
                have g2 := hf 2
                have g3 := hf 3
                have g4 := hf 4
                clear hf hf2 hF6 hR6 hv6 ho6 hb6 hN hB hpay e1 e2 hsl3 hsl4 q0 hc hbW hzW hFW hAW hbc hbA hFc hq
                generalize hM : M.length = ml at *
                replace hM := hidden hM
                go_wp2_with fail
                exact fuR_end (g := w.heap.size) rfl rfl rfl rfl hend.out ⟨.slice a5 ml c5, heq.out, hre.out, hob.out, hbe.out⟩
              · have q0 : ¬ slC t L = 0 := fun q => hc (hsl3.out.symm.trans q)
                obtain ⟨hB1, hB2⟩ := hB.out q0
                have hpay := hidden hB2
                have heq := hidden (show Ending.returned (.tuple #[fuA 0 0 0 0 (.slice none 0 0), .int .i64 (shC t (wtL L))]) = .returned (.tuple #[fuA (siN T f c L f) (siN T f c L c) (siN T f c L t) (siN T f c L sc) (.slice none 0 0), .int .i64 (siC T f c L)]) from by rw [e1.out, hsl3.out, hB1, hB1, hB1, hB1])
                have hcB : (shC t (wtL L) != 0) = true := by simpa using hc
                clear hc
                have hzz := hR6
                have hb := hb6
                clear hB1 hB2 hF6 hR6 hv6 ho6 hb6 hN hB e1 e2 hsl3 hsl4 q0 hFW hAW hbc hbA hFc hq
                generalize shC t (wtL L) = sk at *
                generalize hM : M.length = ml at *
                clear hM h32 hFlt hL32
                have hend := hidden (fu_put hzz 0 0 0 0 (.slice none 0 0))
                have hbe := hidden (fu_put_below (hbW.out _ hb.out) (Nat.le_refl _) 0 0 0 0 (.slice none 0 0))
                have g0 := hf 0
                have g1 := hf 1
                have g2 := hf 2
                have g3 := hf 3
                have g4 := hf 4
                clear hf hzz hbW hzW hb
                go_wp2_with fail
                exact fuR_end (g := w.heap.size) rfl rfl rfl rfl hend.out ⟨.slice none 0 0, heq.out, by rw [hpay.out]; exact Reads.nil _ _, own_nil23 _, hbe.out⟩
    · have e1 : siC T f c L = (covR T L).c := by
        rcases si_ways T f c L with ⟨q, _⟩ | ⟨_, q, q2⟩ | ⟨_, q, _⟩ | ⟨_, q, _⟩
        · rw [h1] at q; simp at q
        · exact q2
        · exact absurd q h2
        · exact absurd q h2
      obtain ⟨hB1, hB2⟩ := si_bad (T := T) (f := f) (c := c) (L := L) (by rw [e1]; exact h2)
      have hpay := hidden hB2
      have heq := hidden (show Ending.returned (.tuple #[fuA 0 0 0 0 (.slice none 0 0), .int .i64 (covR T L).c]) = .returned (.tuple #[fuA (siN T f c L f) (siN T f c L c) (siN T f c L (siW T f c L)) (siN T f c L (covR T L).s) (.slice none 0 0), .int .i64 (siC T f c L)]) from by rw [e1, hB1, hB1, hB1, hB1])
      have hcB : ((covR T L).c == 0) = false := by simpa using h2
      clear hB1 hB2 e1 h1 hr h hb1 hz hsi hcv hC1
      generalize clV 0 f c = t0 at *
      generalize siW T f c L = t at *
      generalize (covR T L).v = cv at *
      generalize (covR T L).s = sc at *
      generalize (covR T L).c = sk at *
      go_enter Tryd.func11, Tryd.ntmps11
      go_wp2_with fail
      (with_reducible refine (hC0.out _).mono ?_)
      rintro e w2 ⟨rfl, rfl⟩
      clear hC0
      go_wp2_with fail
      (with_reducible refine (hCov.out _ (Below.refl _ _)).mono ?_)
      rintro e w3 ⟨rfl, hb3⟩
      have hb := hidden hb3
      clear hCov hb3
      have hzz := hzW.out _ hb.out
      obtain ⟨⟨z0, z1, z2, z3, z4⟩, hf⟩ := fu_cells hzz
      have hend := hidden (fu_put hzz 0 0 0 0 (.slice none 0 0))
      have hbe := hidden (fu_put_below (hbW.out _ hb.out) (Nat.le_refl _) 0 0 0 0 (.slice none 0 0))
      have g0 := hf 0
      have g1 := hf 1
      have g2 := hf 2
      have g3 := hf 3
      have g4 := hf 4
      clear hf hzz hbW hzW hb
      go_wp2_with fail
      exact fuR_end (g := w.heap.size) rfl rfl rfl rfl hend.out ⟨.slice none 0 0, heq.out, by rw [hpay.out]; exact Reads.nil _ _, own_nil23 _, hbe.out⟩
  · have e1 : clC 0 f c = 103 ∧ siC T f c L = 103 := by
      rcases si_ways T f c L with ⟨q, q2⟩ | ⟨q, _⟩ | ⟨q, _⟩ | ⟨q, _⟩
      · exact ⟨q, q2⟩
      · exact absurd q h1
      · exact absurd q h1
      · exact absurd q h1
    obtain ⟨hB1, hB2⟩ := si_bad (T := T) (f := f) (c := c) (L := L) (by rw [e1.2]; decide)
    have hpay := hidden hB2
    have heq := hidden (show Ending.returned (.tuple #[fuA 0 0 0 0 (.slice none 0 0), .int .i64 103]) = .returned (.tuple #[fuA (siN T f c L f) (siN T f c L c) (siN T f c L (siW T f c L)) (siN T f c L (covR T L).s) (.slice none 0 0), .int .i64 (siC T f c L)]) from by rw [e1.2, hB1, hB1, hB1, hB1])
    rw [e1.1] at hC0
    clear hB1 hB2 e1 h1 hr h hb1 hsi hcv hC1 hCov
    generalize clV 0 f c = t0 at *
    go_enter Tryd.func11, Tryd.ntmps11
    go_wp2_with fail
    (with_reducible refine (hC0.out _).mono ?_)
    rintro e w2 ⟨rfl, rfl⟩
    clear hC0
    have hbe := hidden (hbW.out _ (Below.refl _ _))
    clear hbW hzW hrW
    go_wp2_with fail
    exact fuR_end (g := w.heap.size) rfl rfl rfl rfl hz ⟨.slice none 0 0, heq.out, by rw [hpay.out]; exact Reads.nil _ _, own_nil23 _, hbe.out⟩
end Go.Proofs.YtlanggdmdpjfbaaDoor
