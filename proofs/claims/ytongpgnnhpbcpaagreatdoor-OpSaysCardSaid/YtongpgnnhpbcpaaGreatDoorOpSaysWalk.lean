/-
  pledgelaw25.OpSays: for every operation, all bytes and all words.
-/
import Derived.Test.YtongpgnnhpbcpaaGreatDoorOpLaw
import Derived.Test.YtongpgnnhpbcpaaGreatDoorOpRef6
import Derived.Test.YtongpgnnhpbcpaaGreatDoorOpRef7
import Derived.Test.YtongpgnnhpbcpaaGreatDoorOpRef8
import Derived.Test.YtongpgnnhpbcpaaGreatDoorLaidOn
import Derived.Deep.CutBlock
namespace Go.Proofs.YtongpgnnhpbcpaaGreatDoor
open Go.RowKit
set_option linter.unusedVariables false

def SaRel25 (ws : List (List UInt8)) (w0 : World) (i : Value) (wr : World) : Prop := ∃ k : Nat, k ≤ ws.length ∧ i = .int .i64 (k : Int) ∧ Below w0.heap.size w0 wr
theorem codeOk_pa (ws : List (List UInt8)) : codeOk (paC ws) := by
  unfold paC
  split
  · exact .inr (by decide)
  · split
    · exact .inr (by decide)
    · exact codeOk_op _
theorem self3 (c p : Int) (b : Bool) : (c == c && b == b && p == p) = true := by simp
set_option maxRecDepth 100000 in
set_option maxHeartbeats 6400000 in
theorem walk_opSays (o : Opv) (v1 : Value) (xs : List Int) (v2 : Value) (ws : List (List UInt8)) (A : Nat → Addr) (w : World) (hob : OpBig o) (hX : Reads .u8 w v1 xs) (hx : ∀ x ∈ xs, 0 ≤ x ∧ x ≤ 255) (hW : Row wdF 1 w v2 ws) (hwl : ∀ z ∈ ws, z.length ≤ maxLen) (hS : Sents w A) (hT : Lib.TabIs Tryz.prog w "internal/strconv.uint64pow10" .u64 Lib.pow10Tab) (hY : SynOn w) (hR : RowsOn w) :
    Calls Tryz.prog 3 #[opV o, v1, v2] w fun e w' => e = .returned (.bool true) ∧ Below w.heap.size w w' := by
  have hE : OpEnv A w := ⟨hS, hR, hT⟩
  have hw0 := hidden (show Below w.heap.size w (w.alloc (opO o)) from (Below.refl _ _).alloc (Nat.le_refl _) _)
  have hro : OpAt (w.alloc (opO o)) w.heap.size o := ⟨heap_alloc_new w _⟩
  have hro := hidden hro
  have hEb := hidden (fun W (hb : Below w.heap.size w W) => hE.below hb (Nat.le_refl _))
  have hYb := hidden (fun W (hb : Below w.heap.size w W) => hY.below hb (Nat.le_refl _))
  have hXb := hidden (fun W (hb : Below w.heap.size w W) => hX.below hb (Nat.le_refl _))
  have hWb := hidden (fun W (hb : Below w.heap.size w W) => Row.below wdF_len hW hb (Nat.le_refl _))
  have hwd := hidden (fun k hk => hwl (ws.getD k []) (by rw [List.getD_eq_getElem?_getD, List.getElem?_eq_getElem (show k < ws.length from hk)]; exact List.getElem_mem hk))
  obtain ⟨ab, cb, rfl⟩ := reads_slice hX
  obtain ⟨aw, cw, rfl⟩ := row_slice hW
  replace hx := hidden hx
  clear hE hS hT hY hR hX hW hwl hob
  go_enter Tryz.func3, Tryz.ntmps3
  go_upto_region 1 with (fail)
  generalize hw00 : w.alloc (opO o) = w0 at *
  replace hw00 := hidden hw00
  have hF := hidden (law25_first A w0 (hEb.out _ hw0.out))
  go_wp2_with fail
  refine hF.out.mono ?_
  rintro e w1 ⟨rfl, hb1⟩
  have hb := hidden hb1
  clear hb1 hF
  by_cases h300 : (300 : Int) < (xs.length : Int)
  · have hlow := hidden (hw0.out.trans (hb.out.mono hw0.out.size))
    go_wp2
    go_ret
    exact ⟨rfl, hlow.out⟩
  by_cases h12 : (12 : Int) < (ws.length : Int)
  · have hlow := hidden (hw0.out.trans (hb.out.mono hw0.out.size))
    go_wp2
    go_ret
    exact ⟨rfl, hlow.out⟩
  have hst := hidden (show SaRel25 ws w0 (.int .i64 0) w1 from ⟨0, Nat.zero_le _, rfl, hb.out⟩)
  clear hb
  go_wp2_with fail
  go_loopw [8] (fun i wr => SaRel25 ws w0 i wr) (fun i _ => ws.length - (intOf i).toNat)
  case atStart => exact hst.out
  case round =>
    clear hst
    obtain ⟨k, hk, rfl, hb0⟩ := hrel
    have hb := hidden hb0
    have hlow := hidden (hw0.out.trans (hb0.mono hw0.out.size))
    clear hb0
    by_cases hlt : k < ws.length
    · have hkI : (k : Int) < (ws.length : Int) := by omega
      obtain ⟨b, o2, rfl⟩ := wds_some (hWb.out wr hlow.out) (by omega)
      have ck := wds_cell (hWb.out wr hlow.out) k hlt
      have hlen := hwd.out k hlt
      unfold maxLen at hlen
      generalize ws.getD k [] = l at *
      have hUs : (⟨l.toArray⟩ : ByteArray).size = l.length := by simp [ByteArray.size]
      have hk12 : k ≤ 12 := by omega
      by_cases h30 : (30 : Int) < (l.length : Int)
      · go_wp2
        go_ret
        exact ⟨rfl, hlow.out⟩
      · go_wp2
        go_roundw
        case rel => exact ⟨k + 1, hlt, by go_num, hb.out⟩
        case measure => simp [intOf]; omega
    · have hkI : ¬ (k : Int) < (ws.length : Int) := by omega
      have hcode := hidden (codeOk_op o)
      have hrob := hidden (fun W (h : Below w0.heap.size w0 W) => hro.out.below h)
      have hro1 := hidden (hrob.out _ hb.out)
      obtain ⟨q0, q1, q2, q3, q4, q5, q6, q7⟩ := hro1.out.cells
      go_wp2_with fail
      refine (refValid25 o _).mono ?_
      rintro e w2 ⟨rfl, hb2⟩
      replace hb := hidden (hb.out.trans (hb2.mono hb.out.size))
      replace hlow := hidden (hlow.out.trans (hb2.mono hlow.out.size))
      replace hro1 := hidden (hrob.out _ hb.out)
      clear q0 q1 q2 q3 q4 q5 q6 q7 hb2
      obtain ⟨q0, q1, q2, q3, q4, q5, q6, q7⟩ := hro1.out.cells
      by_cases hg : opE o = 0
      · go_wp2_with fail
        refine (opBytes_good A o _ (hEb.out _ hlow.out) hg).mono ?_
        rintro e w3 ⟨v3, rfl, hown, hb3⟩
        have hx3 := hidden (reads_of_own (k := .u8) hown)
        have hIs := hidden (fun W (h : Below w.heap.size w W) => is_self A (opE o) W (hEb.out W h).sents hcode.out)
        have hVal := hidden (fun W (h : Below w.heap.size w W) => opValid_any A o W ((hEb.out W h).sents.on [2, 10] (by decide)) (hEb.out W h).rows)
        have hok := hidden (op_fine.1 hg)
        rw [hg, show errOf A 0 = .nilIface from rfl] at hIs
        rw [hg, show errOf A 0 = .nilIface from rfl] at hVal
        clear hown
        replace hb := hidden (hb.out.trans (hb3.mono hb.out.size))
        replace hlow := hidden (hlow.out.trans (hb3.mono hlow.out.size))
        replace hro1 := hidden (hrob.out _ hb.out)
        clear q0 q1 q2 q3 q4 q5 q6 q7 hb3
        obtain ⟨q0, q1, q2, q3, q4, q5, q6, q7⟩ := hro1.out.cells
        have hNm := hidden (fun W (h : Below w.heap.size w W) => name_any o.kd W (hEb.out W h).rows)
        have hNr := hidden (fun W => refName_any o.kd W)
        go_upto_region 13 with (fail)
        generalize nmV o.kd = nm at *
        go_cut [74] (fun v wx => v = .bool false ∧ Below w3.heap.size w3 wx)
        case first =>
          have hbw := hidden (Below.refl w3.heap.size w3)
          go_region_with (first
            | (go_at_call 8; refine (hVal.out _ (hlow.out.trans (hbw.out.drew.mono hlow.out.size))).mono ?_; rintro e' w4 ⟨rfl, hb4⟩; replace hbw := hidden (hbw.out.drew.trans hb4))
            | (go_at_call 7; refine (hIs.out _ (hlow.out.trans (hbw.out.mono hlow.out.size))).mono ?_; rintro e' w4 ⟨rfl, hb4⟩; replace hbw := hidden (hbw.out.trans (hb4.mono hbw.out.size)); have hr5 := hidden (hro1.out.below hbw.out); obtain ⟨d0, d1, d2, d3, d4, d5, d6, d7⟩ := hr5.out.cells)
            | (go_at_call 9; refine (hNm.out _ (hlow.out.trans (hbw.out.mono hlow.out.size))).mono ?_; rintro e' w4 ⟨rfl, rfl⟩)
            | (go_at_call 10; refine (hNr.out _).mono ?_; rintro e' w5 ⟨rfl, hb5⟩; have hbz := hidden (hbw.out.trans (hb5.mono hbw.out.size))))
          all_goals (go_wp2_with fail; go_meet; exact ⟨by first | rfl | simp, hbz.out⟩)
        case rest =>
        obtain ⟨rfl, hbx⟩ := hcut
        replace hb := hidden (hb.out.trans (hbx.mono hb.out.size))
        replace hlow := hidden (hlow.out.trans (hbx.mono hlow.out.size))
        clear q0 q1 q2 q3 q4 q5 q6 q7 hIs hVal hNm hNr
        replace hx3 := hidden (hx3.out.below hbx (Nat.le_refl _))
        replace hro1 := hidden (hrob.out _ hb.out)
        obtain ⟨q0, q1, q2, q3, q4, q5, q6, q7⟩ := hro1.out.cells
        have hTx := hidden (fun W (h : Below w.heap.size w W) => opText_good A o W (hEb.out W h) hg)
        have hTr := hidden (fun W (h : Below w.heap.size w W) => refText25 A o W (hEb.out W h) hok.out)
        have hBr := hidden (fun W => refBytes25 o W hok.out.big)
        have hSm := hidden (fun W u (h2 : Reads .u8 W u (encs (nums o))) (h : Reads .u8 W v3 (encs (nums o))) => sameBytes_any v3 u _ _ W h h2 (by have := encs_short hok.out; omega))
        have hdec : decide (encs (nums o) = encs (nums o)) = true := decide_eq_true rfl
        rw [hdec] at hSm
        clear hdec hbx hg
        generalize encs (nums o) = X at *
        generalize txS o = T at *
        go_upto_region 18 with (fail)
        go_cut [91] (fun v wx => v = .bool false ∧ Below wc.heap.size wc wx)
        case first =>
          have hbw := hidden (Below.refl wc.heap.size wc)
          go_region_with (first
            | (go_at_call 12; refine (hBr.out _).mono ?_; rintro e' w4 ⟨v4, rfl, hx4, hb4⟩; replace hx4 := hidden hx4; replace hbw := hidden (hbw.out.drew.trans hb4))
            | (go_at_call 11; refine (hSm.out _ _ hx4.out (hx3.out.below hbw.out (Nat.le_refl _))).mono ?_; rintro e' w5 ⟨rfl, m, rfl⟩; replace hbw := hidden (below_drewN (m := m) hbw.out); have hr5 := hidden (hro1.out.below hbw.out); obtain ⟨d0, d1, d2, d3, d4, d5, d6, d7⟩ := hr5.out.cells)
            | (go_at_call 13; refine (hTx.out _ (hlow.out.trans (hbw.out.mono hlow.out.size))).mono ?_; rintro e' w6 ⟨rfl, hb6⟩; replace hbw := hidden (hbw.out.trans (hb6.mono hbw.out.size)); have hr6 := hidden (hro1.out.below hbw.out); obtain ⟨c0, c1, c2, c3, c4, c5, c6, c7⟩ := hr6.out.cells)
            | (go_at_call 14; refine (hTr.out _ (hlow.out.trans (hbw.out.mono hlow.out.size))).mono ?_; rintro e' w7 ⟨rfl, hb7⟩; have hbz := hidden (hbw.out.trans (hb7.mono hbw.out.size))))
          all_goals (go_wp2_with fail; go_meet; exact ⟨by first | rfl | simp, hbz.out⟩)
        case rest =>
        obtain ⟨rfl, hbx⟩ := hcut
        replace hb := hidden (hb.out.trans (hbx.mono hb.out.size))
        replace hlow := hidden (hlow.out.trans (hbx.mono hlow.out.size))
        clear q0 q1 q2 q3 q4 q5 q6 q7 hTx hTr hBr hSm hx3 hbx
        go_wp2_with fail
        refine (read_any25 A _ xs _ (hEb.out _ hlow.out) (hXb.out _ hlow.out) hx.out).mono ?_
        rintro e w10 ⟨ev, rfl, hev, hb10⟩
        replace hev := hidden hev
        replace hb := hidden (hb.out.trans (hb10.mono hb.out.size))
        replace hlow := hidden (hlow.out.trans (hb10.mono hlow.out.size))
        have hal := (Below.refl w10.heap.size w10).alloc (Nat.le_refl _) (opO (rpR xs))
        have hp := hidden (show OpAt (w10.alloc (opO (rpR xs))) w10.heap.size (rpR xs) from ⟨heap_alloc_new w10 _⟩)
        replace hb := hidden (hb.out.trans (hal.mono hb.out.size))
        replace hlow := hidden (hlow.out.trans (hal.mono hlow.out.size))
        replace hev := hidden (hev.out.below hal)
        clear hal hb10
        go_wp2_with fail
        generalize w10.alloc (opO (rpR xs)) = w11 at *
        generalize w10.heap.size = gp at *
        refine (refRead_any25 _ xs _ (hXb.out _ hlow.out) hx.out).mono ?_
        rintro e w12 ⟨rfl, hb12⟩
        replace hb := hidden (hb.out.trans (hb12.mono hb.out.size))
        replace hlow := hidden (hlow.out.trans (hb12.mono hlow.out.size))
        replace hev := hidden (hev.out.below hb12)
        replace hp := hidden (hp.out.below hb12)
        have hal := ((Below.refl w12.heap.size w12).alloc (Nat.le_refl _) (opO (rpR xs))).alloc (by simp) (fltO (rpF xs).1 (rpF xs).2.1 (rpF xs).2.2)
        have hq := hidden (show OpAt ((w12.alloc (opO (rpR xs))).alloc (fltO (rpF xs).1 (rpF xs).2.1 (rpF xs).2.2)) w12.heap.size (rpR xs) from ⟨by rw [heap_alloc_old _ _ (by simp)]; exact heap_alloc_new w12 _⟩)
        have hf := hidden (show FltAt ((w12.alloc (opO (rpR xs))).alloc (fltO (rpF xs).1 (rpF xs).2.1 (rpF xs).2.2)) (w12.heap.size + 1) (rpF xs).1 (rpF xs).2.1 (rpF xs).2.2 from ⟨by have := heap_alloc_new (w12.alloc (opO (rpR xs))) (fltO (rpF xs).1 (rpF xs).2.1 (rpF xs).2.2); rwa [World.size_alloc] at this⟩)
        replace hb := hidden (hb.out.trans (hal.mono hb.out.size))
        replace hlow := hidden (hlow.out.trans (hal.mono hlow.out.size))
        replace hev := hidden (hev.out.below hal)
        replace hp := hidden (hp.out.below hal)
        clear hal hb12
        go_wp2_with fail
        generalize (w12.alloc (opO (rpR xs))).alloc (fltO (rpF xs).1 (rpF xs).2.1 (rpF xs).2.2) = w13 at *
        generalize w12.heap.size = gq at *
        refine (parse_any25 A _ ws _ (hEb.out _ hlow.out) (hYb.out _ hlow.out) (hWb.out _ hlow.out)).mono ?_
        rintro e w14 ⟨rfl, hb14⟩
        replace hb := hidden (hb.out.trans (hb14.mono hb.out.size))
        replace hlow := hidden (hlow.out.trans (hb14.mono hlow.out.size))
        replace hev := hidden (hev.out.below hb14)
        replace hp := hidden (hp.out.below hb14)
        replace hq := hidden (hq.out.below hb14)
        replace hf := hidden (hf.out.below hb14)
        have hal := (Below.refl w14.heap.size w14).alloc (Nat.le_refl _) (opO (paR ws))
        have hr := hidden (show OpAt (w14.alloc (opO (paR ws))) w14.heap.size (paR ws) from ⟨heap_alloc_new w14 _⟩)
        replace hb := hidden (hb.out.trans (hal.mono hb.out.size))
        replace hlow := hidden (hlow.out.trans (hal.mono hlow.out.size))
        replace hev := hidden (hev.out.below hal)
        replace hp := hidden (hp.out.below hal)
        replace hq := hidden (hq.out.below hal)
        replace hf := hidden (hf.out.below hal)
        clear hal hb14
        go_wp2_with fail
        generalize w14.alloc (opO (paR ws)) = w15 at *
        generalize w14.heap.size = gr at *
        refine (refParse_any25 _ ws _ (hWb.out _ hlow.out)).mono ?_
        rintro e w16 ⟨rfl, hb16⟩
        replace hb := hidden (hb.out.trans (hb16.mono hb.out.size))
        replace hlow := hidden (hlow.out.trans (hb16.mono hlow.out.size))
        replace hev := hidden (hev.out.below hb16)
        replace hp := hidden (hp.out.below hb16)
        replace hq := hidden (hq.out.below hb16)
        replace hf := hidden (hf.out.below hb16)
        replace hr := hidden (hr.out.below hb16)
        have hal := (Below.refl w16.heap.size w16).alloc (Nat.le_refl _) (opO (paR ws))
        have hs := hidden (show OpAt (w16.alloc (opO (paR ws))) w16.heap.size (paR ws) from ⟨heap_alloc_new w16 _⟩)
        replace hb := hidden (hb.out.trans (hal.mono hb.out.size))
        replace hlow := hidden (hlow.out.trans (hal.mono hlow.out.size))
        replace hev := hidden (hev.out.below hal)
        replace hp := hidden (hp.out.below hal)
        replace hq := hidden (hq.out.below hal)
        replace hf := hidden (hf.out.below hal)
        replace hr := hidden (hr.out.below hal)
        clear hal hb16
        have hcp := hidden (codeOk_pa ws)
        have hfc := hf.out.cells
        obtain ⟨⟨f0, f1, f2⟩, f3, f4, f5⟩ := hfc
        go_upto_region 24 with (fail)
        generalize w16.alloc (opO (paR ws)) = w17 at *
        generalize w16.heap.size = gs at *
        have hSa := hidden (same_any _ (rpF xs).1 (rpF xs).1 (rpF xs).2.2 (rpF xs).2.2 (rpF xs).2.1 (rpF xs).2.1 w17 (hev.out.fault (hEb.out _ hlow.out).sents))
        rw [self3] at hSa
        generalize (rpF xs).1 = F1 at *
        generalize (rpF xs).2.1 = F2 at *
        generalize (rpF xs).2.2 = F3 at *
        generalize rpR xs = P at *
        generalize paR ws = R at *
        go_wp2_with fail
        refine hSa.out.mono ?_
        rintro e w18 ⟨rfl, hb18⟩
        clear hev hSa hf f0 f1 f2 f3 f4 f5
        replace hb := hidden (hb.out.trans (hb18.mono hb.out.size))
        replace hlow := hidden (hlow.out.trans (hb18.mono hlow.out.size))
        replace hp := hidden (hp.out.below hb18)
        replace hq := hidden (hq.out.below hb18)
        replace hr := hidden (hr.out.below hb18)
        replace hs := hidden (hs.out.below hb18)
        clear hb18
        obtain ⟨q0, q1, q2, q3, q4, q5, q6, q7⟩ := hp.out.cells
        obtain ⟨r0, r1, r2, r3, r4, r5, r6, r7⟩ := hq.out.cells
        go_wp2_with fail
        refine (sameOp_any P P w18).mono ?_
        rintro e w19 ⟨rfl, hb19⟩
        rw [sameO_self]
        clear q0 q1 q2 q3 q4 q5 q6 q7 r0 r1 r2 r3 r4 r5 r6 r7 hp hq
        replace hb := hidden (hb.out.trans (hb19.mono hb.out.size))
        replace hlow := hidden (hlow.out.trans (hb19.mono hlow.out.size))
        replace hr := hidden (hr.out.below hb19)
        replace hs := hidden (hs.out.below hb19)
        clear hb19
        go_wp2_with fail
        refine (is_self A (paC ws) _ (hEb.out _ hlow.out).sents hcp.out).mono ?_
        rintro e w20 ⟨rfl, hb20⟩
        replace hb := hidden (hb.out.trans (hb20.mono hb.out.size))
        replace hlow := hidden (hlow.out.trans (hb20.mono hlow.out.size))
        replace hr := hidden (hr.out.below hb20)
        replace hs := hidden (hs.out.below hb20)
        clear hb20
        obtain ⟨q0, q1, q2, q3, q4, q5, q6, q7⟩ := hr.out.cells
        obtain ⟨r0, r1, r2, r3, r4, r5, r6, r7⟩ := hs.out.cells
        go_wp2_with fail
        refine (sameOp_any R R w20).mono ?_
        rintro e w21 ⟨rfl, hb21⟩
        rw [sameO_self]
        have hfin := hidden (hlow.out.trans (hb21.mono hlow.out.size))
        clear q0 q1 q2 q3 q4 q5 q6 q7 r0 r1 r2 r3 r4 r5 r6 r7
        go_wp2
        go_ret
        exact ⟨rfl, hfin.out⟩
      · go_wp2_with fail
        refine (opBytes_bad A o _ (hEb.out _ hlow.out) hg).mono ?_
        rintro e w3 ⟨rfl, hb3⟩
        have hIs := hidden (fun W (h : Below w.heap.size w W) => is_self A (opE o) W (hEb.out W h).sents hcode.out)
        have hVal := hidden (fun W (h : Below w.heap.size w W) => opValid_any A o W ((hEb.out W h).sents.on [2, 10] (by decide)) (hEb.out W h).rows)
        have hne : (opE o != 0) = true := by rw [bne_iff_ne]; exact hg
        clear hg
        generalize opE o = cq at *
        generalize errOf A cq = eq at *
        replace hb := hidden (hb.out.trans (hb3.mono hb.out.size))
        replace hlow := hidden (hlow.out.trans (hb3.mono hlow.out.size))
        replace hro1 := hidden (hrob.out _ hb.out)
        clear q0 q1 q2 q3 q4 q5 q6 q7 hb3
        obtain ⟨q0, q1, q2, q3, q4, q5, q6, q7⟩ := hro1.out.cells
        have hNm := hidden (fun W (h : Below w.heap.size w W) => name_any o.kd W (hEb.out W h).rows)
        have hNr := hidden (fun W => refName_any o.kd W)
        go_upto_region 13 with (fail)
        generalize nmV o.kd = nm at *
        go_cut [74] (fun v wx => v = .bool false ∧ Below w3.heap.size w3 wx)
        case first =>
          have hbw := hidden (Below.refl w3.heap.size w3)
          go_region_with (first
            | (go_at_call 8; refine (hVal.out _ (hlow.out.trans (hbw.out.drew.mono hlow.out.size))).mono ?_; rintro e' w4 ⟨rfl, hb4⟩; replace hbw := hidden (hbw.out.drew.trans hb4))
            | (go_at_call 7; refine (hIs.out _ (hlow.out.trans (hbw.out.mono hlow.out.size))).mono ?_; rintro e' w4 ⟨rfl, hb4⟩; replace hbw := hidden (hbw.out.trans (hb4.mono hbw.out.size)); have hr5 := hidden (hro1.out.below hbw.out); obtain ⟨d0, d1, d2, d3, d4, d5, d6, d7⟩ := hr5.out.cells)
            | (go_at_call 9; refine (hNm.out _ (hlow.out.trans (hbw.out.mono hlow.out.size))).mono ?_; rintro e' w4 ⟨rfl, rfl⟩)
            | (go_at_call 10; refine (hNr.out _).mono ?_; rintro e' w5 ⟨rfl, hb5⟩; have hbz := hidden (hbw.out.trans (hb5.mono hbw.out.size))))
          all_goals (go_wp2_with fail; go_meet; exact ⟨by first | rfl | simp, hbz.out⟩)
        case rest =>
        obtain ⟨rfl, hbx⟩ := hcut
        replace hb := hidden (hb.out.trans (hbx.mono hb.out.size))
        replace hlow := hidden (hlow.out.trans (hbx.mono hlow.out.size))
        clear q0 q1 q2 q3 q4 q5 q6 q7 hIs hVal hNm hNr
        clear hbx
        go_wp2_with fail
        refine (read_any25 A _ xs _ (hEb.out _ hlow.out) (hXb.out _ hlow.out) hx.out).mono ?_
        rintro e w10 ⟨ev, rfl, hev, hb10⟩
        replace hev := hidden hev
        replace hb := hidden (hb.out.trans (hb10.mono hb.out.size))
        replace hlow := hidden (hlow.out.trans (hb10.mono hlow.out.size))
        have hal := (Below.refl w10.heap.size w10).alloc (Nat.le_refl _) (opO (rpR xs))
        have hp := hidden (show OpAt (w10.alloc (opO (rpR xs))) w10.heap.size (rpR xs) from ⟨heap_alloc_new w10 _⟩)
        replace hb := hidden (hb.out.trans (hal.mono hb.out.size))
        replace hlow := hidden (hlow.out.trans (hal.mono hlow.out.size))
        replace hev := hidden (hev.out.below hal)
        clear hal hb10
        go_wp2_with fail
        generalize w10.alloc (opO (rpR xs)) = w11 at *
        generalize w10.heap.size = gp at *
        refine (refRead_any25 _ xs _ (hXb.out _ hlow.out) hx.out).mono ?_
        rintro e w12 ⟨rfl, hb12⟩
        replace hb := hidden (hb.out.trans (hb12.mono hb.out.size))
        replace hlow := hidden (hlow.out.trans (hb12.mono hlow.out.size))
        replace hev := hidden (hev.out.below hb12)
        replace hp := hidden (hp.out.below hb12)
        have hal := ((Below.refl w12.heap.size w12).alloc (Nat.le_refl _) (opO (rpR xs))).alloc (by simp) (fltO (rpF xs).1 (rpF xs).2.1 (rpF xs).2.2)
        have hq := hidden (show OpAt ((w12.alloc (opO (rpR xs))).alloc (fltO (rpF xs).1 (rpF xs).2.1 (rpF xs).2.2)) w12.heap.size (rpR xs) from ⟨by rw [heap_alloc_old _ _ (by simp)]; exact heap_alloc_new w12 _⟩)
        have hf := hidden (show FltAt ((w12.alloc (opO (rpR xs))).alloc (fltO (rpF xs).1 (rpF xs).2.1 (rpF xs).2.2)) (w12.heap.size + 1) (rpF xs).1 (rpF xs).2.1 (rpF xs).2.2 from ⟨by have := heap_alloc_new (w12.alloc (opO (rpR xs))) (fltO (rpF xs).1 (rpF xs).2.1 (rpF xs).2.2); rwa [World.size_alloc] at this⟩)
        replace hb := hidden (hb.out.trans (hal.mono hb.out.size))
        replace hlow := hidden (hlow.out.trans (hal.mono hlow.out.size))
        replace hev := hidden (hev.out.below hal)
        replace hp := hidden (hp.out.below hal)
        clear hal hb12
        go_wp2_with fail
        generalize (w12.alloc (opO (rpR xs))).alloc (fltO (rpF xs).1 (rpF xs).2.1 (rpF xs).2.2) = w13 at *
        generalize w12.heap.size = gq at *
        refine (parse_any25 A _ ws _ (hEb.out _ hlow.out) (hYb.out _ hlow.out) (hWb.out _ hlow.out)).mono ?_
        rintro e w14 ⟨rfl, hb14⟩
        replace hb := hidden (hb.out.trans (hb14.mono hb.out.size))
        replace hlow := hidden (hlow.out.trans (hb14.mono hlow.out.size))
        replace hev := hidden (hev.out.below hb14)
        replace hp := hidden (hp.out.below hb14)
        replace hq := hidden (hq.out.below hb14)
        replace hf := hidden (hf.out.below hb14)
        have hal := (Below.refl w14.heap.size w14).alloc (Nat.le_refl _) (opO (paR ws))
        have hr := hidden (show OpAt (w14.alloc (opO (paR ws))) w14.heap.size (paR ws) from ⟨heap_alloc_new w14 _⟩)
        replace hb := hidden (hb.out.trans (hal.mono hb.out.size))
        replace hlow := hidden (hlow.out.trans (hal.mono hlow.out.size))
        replace hev := hidden (hev.out.below hal)
        replace hp := hidden (hp.out.below hal)
        replace hq := hidden (hq.out.below hal)
        replace hf := hidden (hf.out.below hal)
        clear hal hb14
        go_wp2_with fail
        generalize w14.alloc (opO (paR ws)) = w15 at *
        generalize w14.heap.size = gr at *
        refine (refParse_any25 _ ws _ (hWb.out _ hlow.out)).mono ?_
        rintro e w16 ⟨rfl, hb16⟩
        replace hb := hidden (hb.out.trans (hb16.mono hb.out.size))
        replace hlow := hidden (hlow.out.trans (hb16.mono hlow.out.size))
        replace hev := hidden (hev.out.below hb16)
        replace hp := hidden (hp.out.below hb16)
        replace hq := hidden (hq.out.below hb16)
        replace hf := hidden (hf.out.below hb16)
        replace hr := hidden (hr.out.below hb16)
        have hal := (Below.refl w16.heap.size w16).alloc (Nat.le_refl _) (opO (paR ws))
        have hs := hidden (show OpAt (w16.alloc (opO (paR ws))) w16.heap.size (paR ws) from ⟨heap_alloc_new w16 _⟩)
        replace hb := hidden (hb.out.trans (hal.mono hb.out.size))
        replace hlow := hidden (hlow.out.trans (hal.mono hlow.out.size))
        replace hev := hidden (hev.out.below hal)
        replace hp := hidden (hp.out.below hal)
        replace hq := hidden (hq.out.below hal)
        replace hf := hidden (hf.out.below hal)
        replace hr := hidden (hr.out.below hal)
        clear hal hb16
        have hcp := hidden (codeOk_pa ws)
        have hfc := hf.out.cells
        obtain ⟨⟨f0, f1, f2⟩, f3, f4, f5⟩ := hfc
        go_upto_region 24 with (fail)
        generalize w16.alloc (opO (paR ws)) = w17 at *
        generalize w16.heap.size = gs at *
        have hSa := hidden (same_any _ (rpF xs).1 (rpF xs).1 (rpF xs).2.2 (rpF xs).2.2 (rpF xs).2.1 (rpF xs).2.1 w17 (hev.out.fault (hEb.out _ hlow.out).sents))
        rw [self3] at hSa
        generalize (rpF xs).1 = F1 at *
        generalize (rpF xs).2.1 = F2 at *
        generalize (rpF xs).2.2 = F3 at *
        generalize rpR xs = P at *
        generalize paR ws = R at *
        go_wp2_with fail
        refine hSa.out.mono ?_
        rintro e w18 ⟨rfl, hb18⟩
        clear hev hSa hf f0 f1 f2 f3 f4 f5
        replace hb := hidden (hb.out.trans (hb18.mono hb.out.size))
        replace hlow := hidden (hlow.out.trans (hb18.mono hlow.out.size))
        replace hp := hidden (hp.out.below hb18)
        replace hq := hidden (hq.out.below hb18)
        replace hr := hidden (hr.out.below hb18)
        replace hs := hidden (hs.out.below hb18)
        clear hb18
        obtain ⟨q0, q1, q2, q3, q4, q5, q6, q7⟩ := hp.out.cells
        obtain ⟨r0, r1, r2, r3, r4, r5, r6, r7⟩ := hq.out.cells
        go_wp2_with fail
        refine (sameOp_any P P w18).mono ?_
        rintro e w19 ⟨rfl, hb19⟩
        rw [sameO_self]
        clear q0 q1 q2 q3 q4 q5 q6 q7 r0 r1 r2 r3 r4 r5 r6 r7 hp hq
        replace hb := hidden (hb.out.trans (hb19.mono hb.out.size))
        replace hlow := hidden (hlow.out.trans (hb19.mono hlow.out.size))
        replace hr := hidden (hr.out.below hb19)
        replace hs := hidden (hs.out.below hb19)
        clear hb19
        go_wp2_with fail
        refine (is_self A (paC ws) _ (hEb.out _ hlow.out).sents hcp.out).mono ?_
        rintro e w20 ⟨rfl, hb20⟩
        replace hb := hidden (hb.out.trans (hb20.mono hb.out.size))
        replace hlow := hidden (hlow.out.trans (hb20.mono hlow.out.size))
        replace hr := hidden (hr.out.below hb20)
        replace hs := hidden (hs.out.below hb20)
        clear hb20
        obtain ⟨q0, q1, q2, q3, q4, q5, q6, q7⟩ := hr.out.cells
        obtain ⟨r0, r1, r2, r3, r4, r5, r6, r7⟩ := hs.out.cells
        go_wp2_with fail
        refine (sameOp_any R R w20).mono ?_
        rintro e w21 ⟨rfl, hb21⟩
        rw [sameO_self]
        have hfin := hidden (hlow.out.trans (hb21.mono hlow.out.size))
        clear q0 q1 q2 q3 q4 q5 q6 q7 r0 r1 r2 r3 r4 r5 r6 r7
        go_wp2
        go_ret
        exact ⟨rfl, hfin.out⟩
end Go.Proofs.YtongpgnnhpbcpaaGreatDoor
