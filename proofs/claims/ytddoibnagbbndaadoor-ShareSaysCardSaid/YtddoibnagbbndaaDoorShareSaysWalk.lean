/-
  ShareSays.
-/
import Derived.Test.YtddoibnagbbndaaDoorShareRef2
import Derived.Test.YtddoibnagbbndaaDoorShareLaw
import Derived.Test.YtddoibnagbbndaaDoorLaidOn
import Derived.BigQuiet
namespace Go.Proofs.YtddoibnagbbndaaDoor
open Go Go.RowKit
set_option linter.unusedVariables false

theorem drewE23 {B n : Nat} {w0 w w' : World} (h : Below B w0 w) (e : w' = w.drewN n) : Below B w0 w' := by rw [e]; exact below_drewN h
theorem shC_code (W : Int) (L : List Int) : codeOk (shC W L) := by
  unfold shC codeOk
  split
  · exact .inr ⟨by decide, by decide⟩
  · split
    · exact .inr ⟨by decide, by decide⟩
    · split
      · exact .inr ⟨by decide, by decide⟩
      · split
        · exact .inr ⟨by decide, by decide⟩
        · exact .inl rfl
theorem floC_code (W x S : Int) : codeOk (floC W x S) := by
  unfold floC codeOk
  split
  · exact .inl rfl
  · exact .inr ⟨by decide, by decide⟩
theorem spA_len (W : Int) (L : List Int) : (spA W L).length ≤ L.length := by
  unfold spA
  split
  · rw [show (shL W L).length = L.length from ptL_len _ _ _]; exact Nat.le_refl _
  · exact Nat.zero_le _
set_option maxRecDepth 100000 in
set_option maxHeartbeats 6400000 in
theorem walk_shareSays (W : Int) (v : Value) (L : List Int) (p q : Int) (A : Nat → Addr) (w : World) (hW : -9223372036854775808 ≤ W) (hW2 : W ≤ 9223372036854775807) (h : Reads .i64 w v L) (hz : ∀ x ∈ L, -9223372036854775808 ≤ x ∧ x ≤ 9223372036854775807) (hp : -9223372036854775808 ≤ p) (hp2 : p ≤ 9223372036854775807) (hq : -9223372036854775808 ≤ q) (hq2 : q ≤ 9223372036854775807) (hS : Sents w A) :
    Calls Tryd.prog 3 #[.int .i64 W, v, .int .i64 p, .int .i64 q] w fun e w' => e = .returned (.bool true) ∧ Below w.heap.size w w' := by
  have hE := hidden (fun W' (hb : Below w.heap.size w W') => (hS.below hb (Nat.le_refl _)).on [2, 3, 4, 5] (by decide))
  have hF := hidden (law23_first A w (hS.on [2, 3, 4, 5] (by decide)))
  have hr := hidden (fun W' (hb : Below w.heap.size w W') => h.below hb (Nat.le_refl _))
  have hI1 := hidden (fun W' (hb : Below w.heap.size w W') => is_self A (shC W L) W' (hS.below hb (Nat.le_refl _)) (shC_code W L))
  have hI2 := hidden (fun W' (hb : Below w.heap.size w W') => is_self A (floC W p q) W' (hS.below hb (Nat.le_refl _)) (floC_code W p q))
  have g1 := hidden (fun W' (hb : Below w.heap.size w W') => split_any23 A W v L W' (hr.out W' hb) (hE.out W' hb))
  have g2 := hidden (fun W' (hb : Below w.heap.size w W') => refSplit_any23 W v L W' hW hW2 (hr.out W' hb) (fun i hi => hz _ (by
    show L.getD i 0 ∈ L
    rw [List.getD_eq_getElem?_getD, List.getElem?_eq_getElem hi]; exact List.getElem_mem hi)))
  have g3 := hidden (fun W' (hb : Below w.heap.size w W') => floor_any23 A W p q W' ((hE.out W' hb).sub (ks := [2]) (by simp)))
  have g4 := hidden (fun W' => refFloor_any23 W p q W' hW hW2 hp hp2 hq2)
  unfold SpAt23 at g1
  unfold RefSpAt23 at g2
  obtain ⟨a1, c1, rfl⟩ := reads_slice h
  have hsl := hidden (spA_len W L)
  by_cases h40 : (40 : Int) < (L.length : Int)
  · clear h hz hS hr hE hI1 hI2 g1 g2 g3 g4
    go_enter Tryd.func3, Tryd.ntmps3
    go_wp2_with fail
    refine hF.out.mono ?_
    rintro e w1 ⟨rfl, hb⟩
    replace hb := hidden hb
    clear hF
    go_wp2
    go_ret
    exact ⟨rfl, hb.out⟩
  have h40n := hidden (show L.length ≤ 40 from by omega)
  clear h hz hS hr hE
  generalize shC W L = c at *
  generalize floC W p q = d at *
  generalize floV W p q = y at *
  generalize hsp : spA W L = M at *
  clear hsp
  go_enter Tryd.func3, Tryd.ntmps3
  go_wp2_with fail
  refine hF.out.mono ?_
  rintro e w1 ⟨rfl, hb⟩
  have k1 := hidden (g1.out _ hb)
  replace hb := hidden hb
  clear hF g1
  go_wp2_with fail
  refine k1.out.mono ?_
  rintro e w2 ⟨va, rfl, hva, hb2⟩
  replace hb := hidden (hb.out.trans (hb2.mono hb.out.size))
  have k2 := hidden (g2.out _ hb.out)
  clear k1 hb2 g2
  go_wp2_with fail
  refine k2.out.mono ?_
  rintro e w3 ⟨vb, rfl, hvb, hb3⟩
  have hva3 := hva.below hb3 (Nat.le_refl _)
  replace hb := hidden (hb.out.trans (hb3.mono hb.out.size))
  have k3 := hidden (g3.out _ hb.out)
  clear k2 hb3 g3 hva
  go_wp2_with fail
  refine k3.out.mono ?_
  rintro e w4 ⟨rfl, m, rfl⟩
  replace hb := hidden (below_drewN (m := m) hb.out)
  have hva4 : Reads .i64 (w3.drewN m) va M := hva3.same fun _ _ => rfl
  have hvb4 : Reads .i64 (w3.drewN m) vb M := hvb.same fun _ _ => rfl
  have k5 := hidden (sameLongs_any va vb M M (w3.drewN m) hva4 hvb4 (by have := hsl.out; have := h40n.out; omega))
  clear k3 hva3 hvb hva4 hvb4
  go_wp2_with fail
  refine (g4.out _).mono ?_
  rintro e w5 ⟨rfl, rfl⟩
  clear g4
  go_wp2_with fail
  refine k5.out.mono ?_
  rintro e w6 ⟨rfl, n, hn⟩
  replace hb := hidden (drewE23 hb.out hn)
  clear hn k5
  go_wp2_with fail
  refine (hI1.out _ hb.out).mono ?_
  rintro e w7 ⟨rfl, hb7⟩
  replace hb := hidden (hb.out.trans (hb7.mono hb.out.size))
  clear hb7 hI1
  go_wp2_with fail
  refine (hI2.out _ hb.out).mono ?_
  rintro e w8 ⟨rfl, hb8⟩
  replace hb := hidden (hb.out.trans (hb8.mono hb.out.size))
  clear hb8 hI2
  go_wp2
  go_ret
  exact ⟨rfl, hb.out⟩
end Go.Proofs.YtddoibnagbbndaaDoor
