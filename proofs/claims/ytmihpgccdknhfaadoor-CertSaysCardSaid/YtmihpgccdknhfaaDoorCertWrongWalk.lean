/-
  CertWrong (chapter 21), walked: each wrong result is told.
-/
import Derived.Test.YtmihpgccdknhfaaDoorCertLaw
import Derived.Test.YtmihpgccdknhfaaDoorSee
import Derived.Test.YtmihpgccdknhfaaDoorLaid
import Derived.Deep.CutBlock
namespace Go.Proofs.YtmihpgccdknhfaaDoor
open Go Go.RowKit
set_option linter.unusedVariables false

theorem is_yes21 (A : Nat → Addr) (c : Int) (ae : Addr) (w : World) (h : Sents w A) (hc : codeOk c) (ha : errOf A c = errAt ae) : Calls Tryd.prog 10 #[errAt ae, .int .i64 c] w fun e w' => e = .returned (.bool true) ∧ Below w.heap.size w w' := by
  have := is_any A c c w h hc
  rw [ha, show (c == c) = true from by simp] at this
  exact this
def LW21 : List Lt := [⟨5, 4, 3, 0⟩, ⟨2, 9, 1, 1⟩]
theorem ckW_ok : ckC LW21 [0, 10] 20 [3, 2] 22 11 = 0 := by decide
theorem ckW_0 : ckC LW21 [0, 10] 20 [3, 2] 30 11 = 102 := by decide
theorem ckW_1 : ckC LW21 [0, 10] 20 [3, 2] 22 10 = 102 := by decide
theorem ckW_2 : ckC LW21 [0, 10] 20 [3, 3] 22 11 = 102 := by decide
theorem ckW_3 : ckC LW21 [0, 10] 20 [3] 22 11 = 102 := by decide
theorem ckW_4 : ckC LW21 [0, 10] 20 [2, 2] 18 8 = 115 := by decide
theorem ckW_5 : ckC LW21 [] 20 [3, 2] 22 11 = 105 := by decide
abbrev wLW (w : World) : World := (w.alloc (.cells #[.int .i64 5, .int .i64 4, .int .i64 3, .int .i64 0, .int .i64 2, .int .i64 9, .int .i64 1, .int .i64 1] ltTy)).alloc (.cells #[.int .i64 0, .int .i64 10] 2)
abbrev wPW (w : World) : World := (wLW w).alloc (pbO pbTy (.slice (some ⟨w.heap.size, 0, none⟩) 2 2) (.slice (some ⟨w.heap.size + 1, 0, none⟩) 2 2) 20)
abbrev wTW (w : World) : World := (wPW w).alloc (.cells #[.int .i64 3, .int .i64 2] inTy)
abbrev wRW (w : World) : World := (wTW w).alloc (reO (.slice (some ⟨w.heap.size + 1 + 1 + 1, 0, none⟩) 2 2) 22 11 false 0)
abbrev LvW (B : Nat) : Value := .slice (some ⟨B, 0, none⟩) 2 2
abbrev CvW (B : Nat) : Value := .slice (some ⟨B + 1, 0, none⟩) 2 2
abbrev TvW (B : Nat) : Value := .slice (some ⟨B + 1 + 1 + 1, 0, none⟩) 2 2
/-- what the statement's problem and result are, whatever happens above the result's block. -/
structure WrIs (B : Nat) (W : World) : Prop where
  pb : PbAt W (B + 1 + 1) pbTy (LvW B) (CvW B) 20
  reads : PbR W (LvW B) (CvW B) LW21 [0, 10]
  take : Reads .i64 W (TvW B) [3, 2]
theorem WrIs.next {B B' : Nat} {W W' : World} (h : WrIs B W) (hb : Below B' W W') (hB : W.heap.size ≤ B') : WrIs B W' := ⟨h.pb.below hb hB, h.reads.below hb hB, h.take.below hb hB⟩
theorem wrIs_new (w : World) : WrIs w.heap.size (wTW w) ∧ (wTW w).heap.size = w.heap.size + 4 ∧ (wRW w).heap[w.heap.size + 4]? = some (reO (TvW w.heap.size) 22 11 false 0) ∧ (wRW w).heap.size = w.heap.size + 5 ∧ Below w.heap.size w (wTW w) := by
  have h1 := pbr_new w LW21 [0, 10] 2 2 #[.int .i64 5, .int .i64 4, .int .i64 3, .int .i64 0, .int .i64 2, .int .i64 9, .int .i64 1, .int .i64 1] #[.int .i64 0, .int .i64 10] rfl rfl rfl rfl (by decide) (by decide) (by decide) (by decide)
  have h2 := pbAt_new (wLW w) pbTy (.slice (some ⟨w.heap.size, 0, none⟩) 2 2) (.slice (some ⟨w.heap.size + 1, 0, none⟩) 2 2) 20
  have hb2 := below_pb (wLW w) pbTy (.slice (some ⟨w.heap.size, 0, none⟩) 2 2) (.slice (some ⟨w.heap.size + 1, 0, none⟩) 2 2) 20
  have hb3 := below_ints (wPW w) #[.int .i64 3, .int .i64 2]
  have h3 := ints_new (wPW w) [3, 2] 2 #[.int .i64 3, .int .i64 2] rfl rfl (by decide)
  have e2 : (wLW w).heap.size = w.heap.size + 1 + 1 := by simp
  have e3 : (wPW w).heap.size = w.heap.size + 1 + 1 + 1 := by simp
  have e4 : (wTW w).heap.size = w.heap.size + 4 := by simp
  have h4 : (wRW w).heap[(wTW w).heap.size]? = some (reO (TvW w.heap.size) 22 11 false 0) := heap_alloc_new (wTW w) _
  rw [e2] at h2
  rw [e3] at h3
  rw [e4] at h4
  refine ⟨⟨h2.below hb3 (Nat.le_refl _), (h1.below hb2 (Nat.le_refl _)).below hb3 (Nat.le_refl _), h3⟩, e4, h4, by simp, ?_⟩
  exact ((((Below.refl w.heap.size w).alloc (Nat.le_refl _) _).alloc (by simp) _).alloc (by simp; omega) _).alloc (by simp; omega) _
def WrCut (B : Nat) (w0 : World) (a : Value) (W : World) : Prop :=
  ∃ cv C tv T wt c code, a = .int .i64 code ∧ (code = 102 ∨ code = 105 ∨ code = 115) ∧ ckC LW21 C 20 T wt c = code ∧ PbAt W (B + 1 + 1) pbTy (LvW B) cv 20 ∧ PbR W (LvW B) cv LW21 C ∧
    W.heap[B + 4]? = some (reO tv wt c false 0) ∧ Reads .i64 W tv T ∧ Below w0.heap.size w0 W
set_option maxRecDepth 100000 in
set_option maxHeartbeats 12800000 in
theorem walk_certWrong (a : Int) (A : Nat → Addr) (w : World) (a0 : -9223372036854775808 ≤ a) (a1 : a ≤ 9223372036854775807) (hS : Sents w A) :
    Calls Tryd.prog 5 #[.int .i64 a] w fun r w' => r = .returned (.bool true) ∧ Below w.heap.size w w' := by
  have hF := hidden (law21_first A w (hS.on [2, 4] (by simp)))
  have hSW := hidden (fun W (h2 : Below w.heap.size w W) => hS.below h2 (Nat.le_refl _))
  have nA := hidden (fun W => number_any a 6 W a0 a1 (by decide) (by decide))
  have hm : 0 ≤ a % 6 ∧ a % 6 < 6 := by omega
  generalize a % 6 = m at *
  clear hS a0 a1
  go_enter Tryd.func5, Tryd.ntmps5
  go_wp2_with fail
  (with_reducible refine hF.out.mono ?_)
  rintro e w1 ⟨rfl, hb1⟩
  replace hb1 := hidden hb1
  obtain ⟨hwr, hsT, hzr, hsR, hlowT⟩ := wrIs_new w1
  have hlowR : Below (w1.heap.size + 4) (wTW w1) (wRW w1) := (Below.refl _ _).alloc (by omega) _
  clear hF
  go_upto_region 6 with (fail)
  obtain ⟨wR, hwR⟩ : ∃ wR, ((((w1.alloc (.cells #[.int .i64 5, .int .i64 4, .int .i64 3, .int .i64 0, .int .i64 2, .int .i64 9, .int .i64 1, .int .i64 1] ltTy)).alloc (.cells #[.int .i64 0, .int .i64 10] 2)).alloc (pbO pbTy (.slice (some ⟨w1.heap.size, 0, none⟩) 2 2) (.slice (some ⟨w1.heap.size + 1, 0, none⟩) 2 2) 20)).alloc (.cells #[.int .i64 3, .int .i64 2] inTy)).alloc (reO (.slice (some ⟨w1.heap.size + 1 + 1 + 1, 0, none⟩) 2 2) 22 11 false 0) = wR := ⟨_, rfl⟩
  rw [hwR]
  rw [show wRW w1 = wR from hwR] at hzr hsR hlowR
  have hb1s := hb1.out.size
  have hlow := hidden (show Below w.heap.size w wR from hb1.out.trans ((hlowT.trans (hlowR.mono (by omega))).mono hb1s))
  generalize wTW w1 = wT at *
  clear hwR
  generalize w1.heap.size = B at *
  have hR0 : WrIs B wR := hwr.next hlowR (by omega)
  have hTW := hidden (fun W (hW : Below (B + 4) wT W) => hwr.next hW (by omega))
  have hE := hidden (fun W (hW : Below wR.heap.size wR W) => (hSW.out W (hlow.out.trans (hW.mono hlow.out.size))).on [1, 2, 4, 14] (by simp))
  have hCk := hidden (ckAny21 A _ _ LW21 [0, 10] 20 _ [3, 2] 22 11 false 0 _ hR0.reads hR0.take (hE.out _ (Below.refl _ _)))
  rw [ckW_ok, errOf_fine] at hCk
  obtain ⟨c0, c1, c2⟩ := hR0.pb.cells
  obtain ⟨⟨z0, z1, z2, z3, z4⟩, hf⟩ := re_cells hzr
  have hbR := hidden (fun W (hW : Below wR.heap.size wR W) => hlowR.trans (hW.mono (by omega)))
  have hzW := hidden (fun W (hW : Below wR.heap.size wR W) => row_later hzr hW)
  clear hwr hlowT hlowR hR0 hf hE hzr
  go_wp2_with fail
  (with_reducible refine hCk.out.mono ?_)
  rintro e w2 ⟨rfl, hb2⟩
  clear hCk c0 c1 c2 z0 z1 z2 z3 z4
  have hb2T := hidden (hbR.out _ hb2)
  have hz2 := hzW.out _ hb2
  have hbw := hidden (hlow.out.trans (hb2.mono hlow.out.size))
  have hI2 := hTW.out _ hb2T.out
  obtain ⟨c0, c1, c2⟩ := hI2.pb.cells
  obtain ⟨⟨z0, z1, z2, z3, z4⟩, hf⟩ := re_cells hz2
  have hs2 : B + 5 ≤ w2.heap.size := by have := hb2.size; omega
  clear hzW hbR hb2 hlow hsR
  replace hI2 := hidden hI2
  replace hz2 := hidden hz2
  replace hf := hidden hf
  go_upto_block 0 with (go_at_call 19; (with_reducible refine (nA.out _).mono ?_); rintro e w' ⟨rfl, rfl⟩)
  go_cut [6] (fun wa wx => WrCut B w wa wx)
  case first =>
    have hmw : m = 0 ∨ m = 1 ∨ m = 2 ∨ m = 3 ∨ m = 4 ∨ m = 5 := by omega
    have f0 := hf.out 0
    have f1 := hf.out 1
    have f2 := hf.out 2
    have f3 := hf.out 3
    have f4 := hf.out 4
    rcases hmw with rfl | rfl | rfl | rfl | rfl | rfl
    · have hB3 := hidden (show Below (B + 4) wT (w2.setCell ⟨B + 4, 1, none⟩ (.int .i64 30)) from hb2T.out.setCell (Nat.le_refl _) _)
      have hW3 := hidden (show Below w.heap.size w (w2.setCell ⟨B + 4, 1, none⟩ (.int .i64 30)) from hbw.out.setCell (show w.heap.size ≤ B + 4 by omega) _)
      have hz3 := hidden (heap_setCell_row (o := 1) hz2.out (.int .i64 30))
      have hI3 := hidden (hTW.out _ hB3.out)
      clear c0 c1 c2 hTW
      go_wp2_with (go_at_call 19; (with_reducible refine (nA.out _).mono ?_); rintro e w' ⟨rfl, rfl⟩)
      go_meet
      exact ⟨_, _, _, _, _, _, _, rfl, .inl rfl, ckW_0, hI3.out.pb, hI3.out.reads, hz3.out, hI3.out.take, hW3.out⟩
    · have hB3 := hidden (show Below (B + 4) wT (w2.setCell ⟨B + 4, 2, none⟩ (.int .i64 10)) from hb2T.out.setCell (Nat.le_refl _) _)
      have hW3 := hidden (show Below w.heap.size w (w2.setCell ⟨B + 4, 2, none⟩ (.int .i64 10)) from hbw.out.setCell (show w.heap.size ≤ B + 4 by omega) _)
      have hz3 := hidden (heap_setCell_row (o := 2) hz2.out (.int .i64 10))
      have hI3 := hidden (hTW.out _ hB3.out)
      clear c0 c1 c2 hTW
      go_wp2_with (go_at_call 19; (with_reducible refine (nA.out _).mono ?_); rintro e w' ⟨rfl, rfl⟩)
      go_meet
      exact ⟨_, _, _, _, _, _, _, rfl, .inl rfl, ckW_1, hI3.out.pb, hI3.out.reads, hz3.out, hI3.out.take, hW3.out⟩
    · have hbA := below_ints w2 #[.int .i64 3, .int .i64 3]
      have ht3 := ints_new w2 [3, 3] 2 #[.int .i64 3, .int .i64 3] rfl rfl (by decide)
      have hzA := row_later hz2.out hbA
      have hBA := hb2T.out.alloc (show B + 4 ≤ w2.heap.size by omega) (.cells #[.int .i64 3, .int .i64 3] inTy)
      have hWA := hbw.out.alloc (show w.heap.size ≤ w2.heap.size by omega) (.cells #[.int .i64 3, .int .i64 3] inTy)
      obtain ⟨wA, hA⟩ : ∃ wA, w2.alloc (.cells #[.int .i64 3, .int .i64 3] inTy) = wA := ⟨_, rfl⟩
      rw [hA] at ht3 hzA hBA hWA
      obtain ⟨⟨z0, z1, z2, z3, z4⟩, hfA⟩ := re_cells hzA
      have f0 := hfA 0
      have f1 := hfA 1
      have f2 := hfA 2
      have f3 := hfA 3
      have f4 := hfA 4
      have hB3 := hidden (show Below (B + 4) wT (wA.setCell ⟨B + 4, 0, none⟩ (.slice (some ⟨w2.heap.size, 0, none⟩) 2 2)) from hBA.setCell (Nat.le_refl _) _)
      have hW3 := hidden (show Below w.heap.size w (wA.setCell ⟨B + 4, 0, none⟩ (.slice (some ⟨w2.heap.size, 0, none⟩) 2 2)) from hWA.setCell (show w.heap.size ≤ B + 4 by omega) _)
      have hz3 := hidden (heap_setCell_row (o := 0) hzA (.slice (some ⟨w2.heap.size, 0, none⟩) 2 2))
      have ht3' := hidden (ht3.trd (Trd.setCell (S := (· = B + 4)) wA ⟨B + 4, 0, none⟩ (.slice (some ⟨w2.heap.size, 0, none⟩) 2 2) rfl) (fun b hb => by
        have e : w2.heap.size = b := by simpa [Value.ownBlock] using hb
        omega))
      have hI3 := hidden (hTW.out _ hB3.out)
      clear c0 c1 c2 hTW hbA ht3 hzA hBA hWA hfA
      go_wp2_with (go_at_call 19; (with_reducible refine (nA.out _).mono ?_); rintro e w' ⟨rfl, rfl⟩)
      go_meet
      exact ⟨_, _, _, _, _, _, _, rfl, .inl rfl, ckW_2, hI3.out.pb, hI3.out.reads, hz3.out, ht3'.out, hW3.out⟩
    · have hbA := below_ints w2 #[.int .i64 3]
      have ht3 := ints_new w2 [3] 1 #[.int .i64 3] rfl rfl (by decide)
      have hzA := row_later hz2.out hbA
      have hBA := hb2T.out.alloc (show B + 4 ≤ w2.heap.size by omega) (.cells #[.int .i64 3] inTy)
      have hWA := hbw.out.alloc (show w.heap.size ≤ w2.heap.size by omega) (.cells #[.int .i64 3] inTy)
      obtain ⟨wA, hA⟩ : ∃ wA, w2.alloc (.cells #[.int .i64 3] inTy) = wA := ⟨_, rfl⟩
      rw [hA] at ht3 hzA hBA hWA
      obtain ⟨⟨z0, z1, z2, z3, z4⟩, hfA⟩ := re_cells hzA
      have f0 := hfA 0
      have f1 := hfA 1
      have f2 := hfA 2
      have f3 := hfA 3
      have f4 := hfA 4
      have hB3 := hidden (show Below (B + 4) wT (wA.setCell ⟨B + 4, 0, none⟩ (.slice (some ⟨w2.heap.size, 0, none⟩) 1 1)) from hBA.setCell (Nat.le_refl _) _)
      have hW3 := hidden (show Below w.heap.size w (wA.setCell ⟨B + 4, 0, none⟩ (.slice (some ⟨w2.heap.size, 0, none⟩) 1 1)) from hWA.setCell (show w.heap.size ≤ B + 4 by omega) _)
      have hz3 := hidden (heap_setCell_row (o := 0) hzA (.slice (some ⟨w2.heap.size, 0, none⟩) 1 1))
      have ht3' := hidden (ht3.trd (Trd.setCell (S := (· = B + 4)) wA ⟨B + 4, 0, none⟩ (.slice (some ⟨w2.heap.size, 0, none⟩) 1 1) rfl) (fun b hb => by
        have e : w2.heap.size = b := by simpa [Value.ownBlock] using hb
        omega))
      have hI3 := hidden (hTW.out _ hB3.out)
      clear c0 c1 c2 hTW hbA ht3 hzA hBA hWA hfA
      go_wp2_with (go_at_call 19; (with_reducible refine (nA.out _).mono ?_); rintro e w' ⟨rfl, rfl⟩)
      go_meet
      exact ⟨_, _, _, _, _, _, _, rfl, .inl rfl, ckW_3, hI3.out.pb, hI3.out.reads, hz3.out, ht3'.out, hW3.out⟩
    · have hbA := below_ints w2 #[.int .i64 2, .int .i64 2]
      have ht3 := ints_new w2 [2, 2] 2 #[.int .i64 2, .int .i64 2] rfl rfl (by decide)
      have hzA := row_later hz2.out hbA
      have hBA := hb2T.out.alloc (show B + 4 ≤ w2.heap.size by omega) (.cells #[.int .i64 2, .int .i64 2] inTy)
      have hWA := hbw.out.alloc (show w.heap.size ≤ w2.heap.size by omega) (.cells #[.int .i64 2, .int .i64 2] inTy)
      obtain ⟨wA, hA⟩ : ∃ wA, w2.alloc (.cells #[.int .i64 2, .int .i64 2] inTy) = wA := ⟨_, rfl⟩
      rw [hA] at ht3 hzA hBA hWA
      obtain ⟨⟨z0, z1, z2, z3, z4⟩, hfA⟩ := re_cells hzA
      have f0 := hfA 0
      have f1 := hfA 1
      have f2 := hfA 2
      have f3 := hfA 3
      have f4 := hfA 4
      have hB3 := hidden (show Below (B + 4) wT (rePut wA (B + 4) (.slice (some ⟨w2.heap.size, 0, none⟩) 2 2) 18 8 false 0) from re_put_below hBA (Nat.le_refl (B + 4)) (.slice (some ⟨w2.heap.size, 0, none⟩) 2 2) 18 8 false 0)
      have hW3 := hidden (show Below w.heap.size w (rePut wA (B + 4) (.slice (some ⟨w2.heap.size, 0, none⟩) 2 2) 18 8 false 0) from re_put_below hWA (show w.heap.size ≤ B + 4 by omega) (.slice (some ⟨w2.heap.size, 0, none⟩) 2 2) 18 8 false 0)
      have hz3 := hidden (re_put hzA (.slice (some ⟨w2.heap.size, 0, none⟩) 2 2) 18 8 false 0)
      have ht3' := hidden (ht3.trd (re_put_trd wA (B + 4) (.slice (some ⟨w2.heap.size, 0, none⟩) 2 2) 18 8 false 0) (fun b hb => by
        have e : w2.heap.size = b := by simpa [Value.ownBlock] using hb
        omega))
      have hI3 := hidden (hTW.out _ hB3.out)
      clear c0 c1 c2 hTW hbA ht3 hzA hBA hWA hfA
      go_wp2_with (go_at_call 19; (with_reducible refine (nA.out _).mono ?_); rintro e w' ⟨rfl, rfl⟩)
      go_meet
      exact ⟨_, _, _, _, _, _, _, rfl, .inr (.inr rfl), ckW_4, hI3.out.pb, hI3.out.reads, hz3.out, ht3'.out, hW3.out⟩
    · have ht := Trd.setCell (S := (· = B + 1 + 1)) w2 ⟨B + 1 + 1, 1, none⟩ (.slice none 0 0) rfl
      have g1 : w2.frozen? ⟨B + 1 + 1, 1, none⟩ = false := by simp [World.frozen?, hI2.out.pb.row]
      have hp3 := hidden (show PbAt (w2.setCell ⟨B + 1 + 1, 1, none⟩ (.slice none 0 0)) (B + 1 + 1) pbTy (LvW B) (.slice none 0 0) 20 from ⟨heap_setCell_row hI2.out.pb.row _⟩)
      have hr3 := hidden (show PbR (w2.setCell ⟨B + 1 + 1, 1, none⟩ (.slice none 0 0)) (LvW B) (.slice none 0 0) LW21 [] from ⟨hI2.out.reads.lots.trd ltV_len ht (fun b hb => by
        have e : B = b := by simpa [Value.ownBlock] using hb
        omega), Reads.nil _ _, hI2.out.reads.big, by simp⟩)
      have ht3 := hidden (hI2.out.take.trd ht (fun b hb => by
        have e : B + 1 + 1 + 1 = b := by simpa [Value.ownBlock] using hb
        omega))
      have hz3 := hidden ((ht.block (B + 4) (by omega) (by omega)).trans hz2.out)
      have hW3 := hidden (show Below w.heap.size w (w2.setCell ⟨B + 1 + 1, 1, none⟩ (.slice none 0 0)) from hbw.out.setCell (show w.heap.size ≤ B + 1 + 1 by omega) _)
      clear z0 z1 z2 z3 z4 hTW ht
      go_wp2_with (go_at_call 19; (with_reducible refine (nA.out _).mono ?_); rintro e w' ⟨rfl, rfl⟩)
      go_meet
      exact ⟨_, _, _, _, _, _, _, rfl, .inr (.inl rfl), ckW_5, hp3.out, hr3.out, hz3.out, ht3.out, hW3.out⟩
  case rest =>
    obtain ⟨cv, C, tv, T, wt, c, code, rfl, hcode, hck, hp, hpr, hz, hr, hb⟩ := hcut
    have hae : ∃ ae, errOf A code = errAt ae := by
      rcases hcode with rfl | rfl | rfl
      · exact ⟨_, rfl⟩
      · exact ⟨_, rfl⟩
      · exact ⟨_, rfl⟩
    obtain ⟨ae, hae⟩ := hae
    have hcO : codeOk code := by unfold codeOk; omega
    have hE := hidden (fun W (hW : Below wc.heap.size wc W) => (hSW.out W (hb.trans (hW.mono hb.size))).on [1, 2, 4, 14] (by simp))
    have hG := hidden (gapAny21 A (LvW B) cv LW21 C 20 tv T wt c false 0 _ hpr hr (hE.out _ (Below.refl _ _)))
    unfold GpAt at hG
    rw [hck, hae] at hG
    have hC := hidden (fun W (hW : Below wc.heap.size wc W) => ckAny21 A (LvW B) cv LW21 C 20 tv T wt c false 0 W (hpr.below hW (Nat.le_refl _)) (hr.below hW (Nat.le_refl _)) (hE.out _ hW))
    rw [hck, hae] at hC
    have hI := hidden (fun W (hW : Below wc.heap.size wc W) => is_yes21 A code ae W (hSW.out W (hb.trans (hW.mono hb.size))) hcO hae)
    have hcel := hidden (fun W (hW : Below wc.heap.size wc W) => And.intro (hp.below hW (Nat.le_refl _)).cells (re_cells (row_later hz hW)).1)
    have hend := hidden (fun W (hW : Below wc.heap.size wc W) => hb.trans (hW.mono hb.size))
    obtain ⟨ca, cc, rfl⟩ := reads_slice hpr.caps
    obtain ⟨ta, tc, rfl⟩ := reads_slice hr
    obtain ⟨⟨c0, c1, c2⟩, ⟨z0, z1, z2, z3, z4⟩⟩ := hcel.out _ (Below.refl _ _)
    clear hcode hck hp hpr hz hr hb hae hcO hE hSW nA hm
    generalize gpV LW21 C 20 T wt c = gp at *
    go_wp2_with fail
    (with_reducible refine hG.out.mono ?_)
    rintro e w3 ⟨rfl, hb3⟩
    clear c0 c1 c2 z0 z1 z2 z3 z4 hG
    obtain ⟨⟨c0, c1, c2⟩, ⟨z0, z1, z2, z3, z4⟩⟩ := hcel.out _ hb3
    have hC1 := hidden (hC.out _ hb3)
    replace hb3 := hidden hb3
    clear hC
    go_wp2_with fail
    (with_reducible refine hC1.out.mono ?_)
    rintro e w4 ⟨rfl, hb4⟩
    replace hb4 := hb3.out.trans (hb4.mono hb3.out.size)
    clear c0 c1 c2 z0 z1 z2 z3 z4 hC1 hb3 hcel
    have hI1 := hidden (hI.out _ hb4)
    replace hb4 := hidden hb4
    go_wp2_with fail
    (with_reducible refine hI1.out.mono ?_)
    rintro e w5 ⟨rfl, hb5⟩
    replace hb5 := hb4.out.trans (hb5.mono hb4.out.size)
    clear hI1 hb4
    have hI2 := hidden (hI.out _ hb5)
    replace hb5 := hidden hb5
    clear hI
    go_wp2_with fail
    (with_reducible refine hI2.out.mono ?_)
    rintro e w6 ⟨rfl, hb6⟩
    replace hend := hidden (hend.out _ (hb5.out.trans (hb6.mono hb5.out.size)))
    clear hI2 hb5 hb6
    go_wp2
    go_ret
    exact ⟨rfl, hend.out⟩
end Go.Proofs.YtmihpgccdknhfaaDoor
