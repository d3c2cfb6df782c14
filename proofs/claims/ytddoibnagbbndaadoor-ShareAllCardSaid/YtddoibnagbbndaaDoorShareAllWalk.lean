/-
  ShareAll.
-/
import Derived.Test.YtddoibnagbbndaaDoorShareLaw
import Derived.Test.YtddoibnagbbndaaDoorShareLawMath
import Derived.Test.YtddoibnagbbndaaDoorRefFix
import Derived.Test.YtddoibnagbbndaaDoorLaidOn
import Derived.BigQuiet
namespace Go.Proofs.YtddoibnagbbndaaDoor
open Go Go.RowKit
set_option linter.unusedVariables false

def SaRel1 (L : List Int) (w2 : World) (s i : Value) (w : World) : Prop := ∃ k : Nat, k ≤ L.length ∧ i = .int .i64 (k : Int) ∧ s = .int .i64 (suF (wF L) k) ∧ w2 = w
def SaRel2 (L M : List Int) (w2 : World) (s i : Value) (w : World) : Prop := ∃ k : Nat, k ≤ L.length ∧ i = .int .i64 (k : Int) ∧ s = .int .i64 (suF (wF M) k) ∧ ∃ m, w = w2.drewN m
def SaRel3 (n : Nat) (w2 : World) (i : Value) (w : World) : Prop := ∃ k : Nat, k ≤ n ∧ i = .int .i64 (k : Int) ∧ ∃ m, w = w2.drewN m
theorem sa_ways {W : Int} {L : List Int} (h : ShOk W L) {i j : Nat} (hi : i < L.length) (hj : j < L.length) :
    (decide (wF L j < wF L i) = true ∧ decide (wF (shL W L) i < wF (shL W L) j) = false ∧ (wF L i == wF L j) = false) ∨ (wF L i = wF L j ∧ decide ((i : Int) < (j : Int)) = true ∧ decide (i < j) = true ∧ decide (wF (shL W L) i < wF (shL W L) j) = false) ∨
    (wF L i = wF L j ∧ decide ((i : Int) < (j : Int)) = false ∧ decide (i < j) = false) ∨ (decide (wF L j < wF L i) = false ∧ (wF L i == wF L j) = false) := by
  have ho := sh_order h hi hj
  rw [← shL_at hi, ← shL_at hj] at ho
  by_cases c1 : wF L j < wF L i
  · exact .inl ⟨decide_eq_true c1, decide_eq_false (by have := ho (.inl c1); omega), by simp; omega⟩
  · by_cases c2 : wF L i = wF L j
    · by_cases c3 : i < j
      · exact .inr (.inl ⟨c2, decide_eq_true (by omega), decide_eq_true c3, decide_eq_false (by have := ho (.inr ⟨c2, c3⟩); omega)⟩)
      · exact .inr (.inr (.inl ⟨c2, decide_eq_false (by omega), decide_eq_false c3⟩))
    · exact .inr (.inr (.inr ⟨decide_eq_false c1, by simp [c2]⟩))
theorem reads_at23 {w : World} {b o c : Nat} {L : List Int} (h : Reads .i64 w (.slice (some ⟨b, o, none⟩) L.length c) L) {i : Nat} (hi : i < L.length) : w.cell? ⟨b, o + i, none⟩ = some (.int .i64 (wF L i)) := by
  obtain ⟨b', o', e, q⟩ := h.cell i hi
  simp only [Option.some.injEq, Addr.mk.injEq, and_true] at e
  obtain ⟨rfl, rfl⟩ := e
  exact q
set_option maxRecDepth 100000 in
set_option maxHeartbeats 12800000 in
theorem walk_shareAll (W : Int) (v : Value) (L : List Int) (A : Nat → Addr) (w : World) (hW : -9223372036854775808 ≤ W) (hW2 : W ≤ 9223372036854775807) (h : Reads .i64 w v L) (hz : ∀ x ∈ L, -9223372036854775808 ≤ x ∧ x ≤ 9223372036854775807) (hS : SentsOn [2, 3, 4, 5] w A) :
    Calls Tryd.prog 4 #[.int .i64 W, v] w fun e w' => e = .returned (.bool true) ∧ Below w.heap.size w w' := by
  have hF := hidden (law23_first A w hS.on)
  have hP := hidden (fun W' (hb : Below w.heap.size w W') => split_any23 A W v L W' (h.below hb (Nat.le_refl _)) (hS.on.below hb (Nat.le_refl _)))
  have hr := hidden (fun W' (hb : Below w.heap.size w W') => h.below hb (Nat.le_refl _))
  have hcap : (L.length : Int) ≤ 9223372036854775807 := by
    obtain ⟨a1, c1, e⟩ := reads_slice h
    rw [e] at h
    have := reads_cap h
    unfold maxLen at this
    omega
  unfold SpAt23 at hP
  by_cases h0 : shC W L = 0
  · have hok := shC_fine.1 h0
    rw [h0, errOf_fine, show spA W L = shL W L from if_pos h0] at hP
    have hn := hok.len
    have hn2 : ¬ (32 : Int) < (L.length : Int) := by omega
    rcases Nat.eq_zero_or_pos L.length with hl | hl
    · obtain rfl := List.eq_nil_of_length_eq_zero hl
      obtain rfl : W = 0 := hok.fit rfl
      obtain ⟨a3, c3, rfl⟩ := reads_slice h
      rw [show shL 0 [] = [] from rfl] at hP
      clear hok h0 h hS hW hW2 hz hr
      go_enter Tryd.func4, Tryd.ntmps4
      go_wp2_with fail
      refine hF.out.mono ?_
      rintro e w1 ⟨rfl, hb1⟩
      have hP1 := hidden (hP.out _ hb1)
      replace hb1 := hidden hb1
      clear hF hP
      go_wp2_with fail
      refine hP1.out.mono ?_
      rintro e w2 ⟨sv, rfl, hv, hb2⟩
      replace hb2 := hidden (hb1.out.trans (hb2.mono hb1.out.size))
      obtain ⟨a4, c4, rfl⟩ := reads_slice hv
      clear hP1 hb1 hv
      go_wp2_with fail
      refine wp_loop_rounds 1 ?_
      rw [rounds_succ]
      go_wp2_with fail
      refine wp_loop_rounds 1 ?_
      rw [rounds_succ]
      go_wp2
      go_ret
      exact ⟨rfl, hb2.out⟩
    · obtain ⟨b1, o1, c1, rfl⟩ := reads_some h hl
      have hlM := shL_len (W := W) (L := L)
      have hwl := hidden (fun k (hk : k < L.length) => show IntKind.i64.wrap (suF (wF L) k + wF L k) = suF (wF L) (k + 1) from by
        have h1 : 0 ≤ suF (wF L) k := suF_pos fun i hi => (hok.all i (by omega)).1
        have h2 := (hok.all k hk).1
        have h3 := suF_upto (f := wF L) (k := L.length) (fun i hi => (hok.all i hi).1) (k + 1) (by omega)
        have h4 := hok.sum
        have h5 : suF (wF L) (k + 1) = suF (wF L) k + wF L k := rfl
        unfold smW at h4
        rw [IntKind.wrap_i64, h5]; omega)
      have hpos : ∀ i, i < L.length → 0 ≤ wF (shL W L) i ∧ wF (shL W L) i ≤ 1000000000000000 := by
        have hS := sh_sums hok
        have q0 : ∀ i, i < L.length → 0 ≤ wF (shL W L) i := fun i hi => by
          rw [shL_at hi]
          have : 0 ≤ flF W L i := by
            by_cases q : smW L = 0
            · unfold flF; rw [q, Int.ediv_zero]; exact Int.le_refl _
            · exact (hok.fl (by have := hok.pos; omega) hi).1
          unfold ptF
          split <;> omega
        intro i hi
        refine ⟨q0 i hi, ?_⟩
        have h1 := suF_mono (f := wF (shL W L)) (k := L.length) q0 i hi
        have h2 := hok.w.2
        unfold smW at hS
        rw [hlM] at hS
        omega
      have hwm := hidden (fun k (hk : k < L.length) => show IntKind.i64.wrap (suF (wF (shL W L)) k + wF (shL W L) k) = suF (wF (shL W L)) (k + 1) from by
        have hS := sh_sums hok
        have h1 : 0 ≤ suF (wF (shL W L)) k := suF_pos fun i hi => (hpos i (by omega)).1
        have h2 := (hpos k hk).1
        have h3 := suF_upto (f := wF (shL W L)) (k := L.length) (fun i hi => (hpos i hi).1) (k + 1) (by omega)
        have h4 := hok.w.2
        have h5 : suF (wF (shL W L)) (k + 1) = suF (wF (shL W L)) k + wF (shL W L) k := rfl
        unfold smW at hS
        rw [hlM] at hS
        rw [IntKind.wrap_i64, h5]; omega)
      have hsum := hidden (show suF (wF (shL W L)) L.length = W from by
        have := sh_sums hok
        unfold smW at this
        rwa [hlM] at this)
      have hsW := hidden (show suF (wF L) L.length = smW L from rfl)
      have hord := hidden (fun i j (hi : i < L.length) (hj : j < L.length) => sa_ways hok hi hj)
      have hlow := hidden (fun i (hi : i < L.length) => show wF (shL W L) i = flF W L i ∨ wF (shL W L) i = flF W L i + 1 from by rw [shL_at hi]; exact sh_low hok hi)
      have hfb := hidden (fun i (hi : i < L.length) => show 0 ≤ flF W L i ∧ flF W L i ≤ 1000000000000000 from by
        by_cases q : smW L = 0
        · unfold flF; rw [q, Int.ediv_zero]; omega
        · have h1 := hok.fl (by have := hok.pos; omega) hi
          have h2 := hok.w.2
          omega)
      have hD := hidden (fun i (hi : i < L.length) (hS : 0 < smW L) (W' : World) => show Calls Tryd.prog 14 #[.int .i64 W, .int .i64 (wF L i), .int .i64 (smW L), .bool false] W' (fun e w' => e = .returned (.tuple #[.int .i64 (flF W L i), .bool (divOk W (wF L i) (smW L) false)]) ∧ W' = w') from by
        have h1 := hok.w
        have h2 := hok.all i hi
        have h3 := hok.sum
        unfold am23 at h1 h2
        have := refDiv_any W (wF L i) (smW L) false W' (by omega) (by omega) (by omega) (by omega) (by omega)
        rwa [(part_ok hok.w h2.1 (hok.le hi) hS).2] at this)
      have hz0 := hidden (fun i (q : ¬ 0 < smW L) => show flF W L i = 0 from by
        have h1 := hok.pos
        unfold flF; rw [show smW L = 0 from by omega, Int.ediv_zero])
      clear hok h0 h hS hW hW2 hz hpos
      go_enter Tryd.func4, Tryd.ntmps4
      go_wp2_with fail
      refine hF.out.mono ?_
      rintro e w1 ⟨rfl, hb1⟩
      have hP1 := hidden (hP.out _ hb1)
      replace hb1 := hidden hb1
      clear hF hP
      go_wp2_with fail
      refine hP1.out.mono ?_
      rintro e w2 ⟨sv, rfl, hv, hb2⟩
      replace hb2 := hidden (hb1.out.trans (hb2.mono hb1.out.size))
      clear hP1 hb1
      have hr2 := hr.out _ hb2.out
      have hx := hidden (fun i (hi : i < L.length) (m : Nat) => show w2.cell? ⟨b1, o1 + i, none⟩ = some (.int .i64 (wF L i)) from reads_at23 hr2 hi)
      obtain ⟨b3, o3, c3, rfl⟩ := reads_some hv (by rw [hlM]; exact hl)
      have hy := hidden (fun i (hi : i < L.length) (m : Nat) => show w2.cell? ⟨b3, o3 + i, none⟩ = some (.int .i64 (wF (shL W L) i)) from reads_at23 hv (by rw [hlM]; exact hi))
      rw [hlM]
      clear hr hr2 hv hlM
      generalize shL W L = M at *
      generalize smW L = S at *
      go_wp2_with fail
      go_loopw [9, 10] (fun s i wr => SaRel1 L w2 s i wr) (fun _ i _ => L.length - (RowKit.intOf i).toNat)
      case atStart => exact ⟨0, Nat.zero_le _, rfl, rfl, rfl⟩
      case round =>
        obtain ⟨k, hk, rfl, rfl, rfl⟩ := hrel
        by_cases hlt : k < L.length
        · have hkI : (k : Int) < (L.length : Int) := by omega
          have ck : w2.cell? ⟨b1, o1 + k, none⟩ = some (.int .i64 (wF L k)) := hx.out k hlt 0
          have hw1 := hwl.out k hlt
          generalize hsk : suF (wF L) (k + 1) = s1 at *
          replace hsk := hidden hsk
          generalize suF (wF L) k = s0 at *
          generalize wF L k = x at *
          go_wp2_with fail
          go_roundw
          case rel => exact ⟨k + 1, hlt, by go_num, by rw [hsk.out], rfl⟩
          case measure => simp [RowKit.intOf]; omega
        · obtain rfl : k = L.length := by omega
          rw [hsW.out]
          clear hwl hsW
          go_wp2_with fail
          go_loopw [8, 11] (fun s i wr => SaRel2 L M w2 s i wr) (fun _ i _ => L.length - (RowKit.intOf i).toNat)
          case atStart => exact ⟨0, Nat.zero_le _, rfl, rfl, 0, rfl⟩
          case round =>
            obtain ⟨k, hk, rfl, rfl, m, rfl⟩ := hrel
            by_cases hlt : k < L.length
            · have hkI : (k : Int) < (L.length : Int) := by omega
              have ck := hx.out k hlt m
              have dk := hy.out k hlt m
              have hw1 := hwm.out k hlt
              have hfk := hfb.out k hlt
              have hwf : IntKind.i64.wrap (flF W L k + 1) = flF W L k + 1 := by rw [IntKind.wrap_i64]; omega
              have hlw := hidden (hlow.out k hlt)
              clear hwm hfb hlow hfk
              go_upto_if 65 with (fail)
              go_cut [12] (fun v wx => v = .int .i64 (flF W L k) ∧ w2.drewN m = wx)
              case first =>
                by_cases hS : 0 < S
                · have hD1 := hidden (hD.out k hlt hS (w2.drewN m))
                  clear hD hz0
                  go_wp2_with fail
                  refine hD1.out.mono ?_
                  rintro e ww ⟨rfl, rfl⟩
                  clear hD1
                  go_wp2
                  go_meet
                  exact ⟨rfl, rfl⟩
                · have hf0 := hidden (hz0.out k (by omega))
                  clear hD hz0
                  go_wp2
                  go_meet
                  exact ⟨by rw [hf0.out], rfl⟩
              case rest =>
                obtain ⟨rfl, rfl⟩ := hcut
                clear hD hz0
                go_upto_region 20 with (fail)
                go_cut [90] (fun v wx => v = .bool false ∧ w2.drewN m = wx)
                case first =>
                  rcases hlw.out with e | e
                  · have u1 : (wF M k != flF W L k) = false := by simp; omega
                    clear e
                    go_wp2
                    go_meet
                    exact ⟨rfl, rfl⟩
                  · have u1 : (wF M k != flF W L k) = true := by simp; omega
                    have u2 : (wF M k != flF W L k + 1) = false := by simp; omega
                    clear e
                    go_wp2
                    go_meet
                    exact ⟨rfl, rfl⟩
                case rest =>
                  obtain ⟨rfl, rfl⟩ := hcut
                  clear hlw
                  go_wp2_with fail
                  go_loopw [13] (fun i wr => SaRel3 L.length w2 i wr) (fun i _ => L.length - (RowKit.intOf i).toNat)
                  case atStart => exact ⟨0, Nat.zero_le _, rfl, m, rfl⟩
                  case round =>
                    obtain ⟨j, hj, rfl, m', rfl⟩ := hrel
                    by_cases hlj : j < L.length
                    · have hjI : (j : Int) < (L.length : Int) := by omega
                      have ck2 := hx.out k hlt m'
                      have cj2 := hx.out j hlj m'
                      have dk2 := hy.out k hlt m'
                      have dj2 := hy.out j hlj m'
                      have hor := hord.out k j hlt hlj
                      clear hord hx hy
                      generalize wF L k = xk at *
                      generalize wF L j = xj at *
                      generalize wF M k = yk at *
                      generalize wF M j = yj at *
                      rcases hor with ⟨t1, t2, t3⟩ | ⟨rfl, t3, t5, t4⟩ | ⟨rfl, t3, t5⟩ | ⟨t1, t2⟩
                      all_goals
                        go_wp2_with fail
                        go_quiet (fail)
                        go_wp2
                        go_roundw
                        case rel => exact ⟨j + 1, hlj, by go_num, by first | exact ⟨_, rfl⟩ | exact ⟨_, World.drewN_drewN _ _ _⟩⟩
                        case measure => simp [RowKit.intOf]; omega
                    · obtain rfl : j = L.length := by omega
                      clear hord hx hy
                      go_wp2
                      go_roundw
                      case rel => first | exact ⟨k + 1, hlt, by go_num, rfl, m', rfl⟩ | ((repeat apply Exists.intro); exact ⟨⟨k + 1, hlt, by go_num, rfl, m', rfl⟩, rfl⟩)
                      case measure => simp [RowKit.intOf]; omega
            · obtain rfl : k = L.length := by omega
              rw [hsum.out]
              clear hwm hfb hlow hD hz0 hord hx hy
              go_wp2
              go_ret
              exact ⟨rfl, below_drewN hb2.out⟩
  · obtain ⟨ad, had⟩ := errOf_bad23 A h0
    rw [had, show spA W L = [] from if_neg h0] at hP
    clear h hS hz hr h0 had
    go_enter Tryd.func4, Tryd.ntmps4
    go_wp2_with fail
    refine hF.out.mono ?_
    rintro e w1 ⟨rfl, hb1⟩
    have hP1 := hidden (hP.out _ hb1)
    replace hb1 := hidden hb1
    clear hF hP
    go_wp2_with fail
    refine hP1.out.mono ?_
    rintro e w2 ⟨sv, rfl, hv, hb2⟩
    replace hb2 := hidden (hb1.out.trans (hb2.mono hb1.out.size))
    obtain ⟨a4, c4, rfl⟩ := reads_slice hv
    clear hP1 hb1 hv
    go_wp2
    go_ret
    exact ⟨rfl, hb2.out⟩
end Go.Proofs.YtddoibnagbbndaaDoor
