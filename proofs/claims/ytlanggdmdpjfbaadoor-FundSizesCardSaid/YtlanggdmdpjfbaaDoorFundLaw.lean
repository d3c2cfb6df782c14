/-
  The chapter's example.
-/
import Derived.Test.YtlanggdmdpjfbaaDoorFund3
import Derived.Test.YtlanggdmdpjfbaaDoorStressLaw
import Derived.Test.YtlanggdmdpjfbaaDoorSameLongs
namespace Go.Proofs.YtlanggdmdpjfbaaDoor
open Go Go.RowKit
set_option linter.unusedVariables false

theorem fu_first : siC noL 5 9 [1, 1] = 0 ∧ siW noL 5 9 [1, 1] = 5 ∧ siL noL 5 9 [1, 1] = [3, 2] := by decide +kernel
theorem size_first (A : Nat → Addr) (w : World) (B g n : Nat) (h : LoAt w B g n noL) (v : Value) (hr : Reads .i64 w v [1, 1]) (hE : ErrsOn [2, 3, 4, 5] w A) :
    Calls Tryd.prog 10 #[.pointer (some ⟨g, 0, none⟩), .int .i64 5, .int .i64 9, v] w fun e w' => ∃ (sc : Int) (v' : Value), e = .returned (.tuple #[fuA 5 9 5 sc v', .nilIface]) ∧ Reads .i64 w' v' [3, 2] ∧ Below w.heap.size w w' :=
  (size_any24 A w B g n noL h 5 9 v [1, 1] hr hE).mono fun e w' hx => by
    obtain ⟨v', h1, h2, _, h4⟩ := hx
    have hN := si_good (T := noL) (f := 5) (c := 9) (L := [1, 1]) fu_first.1
    rw [fu_first.1, fu_first.2.1, hN, hN, hN, errOf_fine] at h1
    rw [fu_first.2.2] at h2
    exact ⟨_, v', h1, h2, h4⟩
set_option maxRecDepth 100000 in
set_option maxHeartbeats 1600000 in
theorem law24_first (A : Nat → Addr) (w : World) (hE : ErrsOn [2, 3, 4, 5] w A) : Calls Tryd.prog 7 #[] w fun e w' => e = .returned (.bool true) ∧ Below w.heap.size w w' := by
  obtain ⟨hL, hb⟩ := lnew22 (Below.refl w.heap.size w)
  have hb1 := hb.alloc hb.size (.cells #[.int .i64 1, .int .i64 1] 2)
  have hL1 := hL.below ((Below.refl _ _).alloc (Nat.le_refl _) (.cells #[.int .i64 1, .int .i64 1] 2)) (Nat.le_refl _)
  have hR := reads_new (k := .i64) (w := w.alloc (.cells #[.map none] 27)) (e := 2) #[.int .i64 1, .int .i64 1] [1, 1] 2 rfl rfl (by decide)
  rw [World.size_alloc] at hR
  have hC := hidden (size_first A _ _ _ _ hL1 _ hR (hE.below hb1 (Nat.le_refl _)))
  replace hb1 := hidden hb1
  clear hL hE hb hL1 hR
  generalize hl2 : [(3 : Int), 2] = M at *
  have hM2 := hidden (show M.length = 2 from by rw [← hl2]; rfl)
  replace hl2 := hidden hl2
  go_enter Tryd.func7, Tryd.ntmps7
  go_wp2_with fail
  refine hC.out.mono ?_
  rintro r w1 ⟨sc, v, rfl, hv, hb2⟩
  obtain ⟨a5, c5, rfl⟩ := reads_slice hv
  generalize hml : M.length = ml at *
  replace hml := hidden hml
  have hb3 := hb1.out.trans (hb2.mono hb1.out.size)
  have hbA := (Below.refl w1.heap.size w1).alloc (Nat.le_refl _) (fuO fuTy 5 9 5 sc (.slice a5 ml c5))
  have hbB := hbA.alloc hbA.size (.cells #[.int .i64 3, .int .i64 2] 2)
  have hR2 := reads_new (k := .i64) (w := w1.alloc (fuO fuTy 5 9 5 sc (.slice a5 ml c5))) (e := 2) #[.int .i64 3, .int .i64 2] M 2 (by rw [← hl2.out]; rfl) (by rw [← hl2.out]; rfl) (by decide)
  rw [World.size_alloc] at hR2
  have hL := hidden (sameLongs_any (.slice a5 ml c5) _ M M _ (hv.below hbB (Nat.le_refl _)) hR2 (by rw [← hl2.out]; decide))
  have hb5 := hidden (hb3.trans (hbB.mono hb3.size))
  clear hC hv hb2 hR2 hbA hbB hb3
  go_wp2_with fail
  refine hL.out.mono ?_
  rintro e w2 ⟨rfl, m, rfl⟩
  clear hL
  go_wp2
  go_ret
  exact ⟨ret_bool (by simp), below_drewN hb5.out⟩
end Go.Proofs.YtlanggdmdpjfbaaDoor
