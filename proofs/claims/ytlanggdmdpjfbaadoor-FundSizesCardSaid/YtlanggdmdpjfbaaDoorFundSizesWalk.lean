/-
  FundSizes.
-/
import Derived.Test.YtlanggdmdpjfbaaDoorFundLaw
import Derived.Test.YtlanggdmdpjfbaaDoorStressDo
import Derived.Test.YtlanggdmdpjfbaaDoorShareDo
import Derived.Test.YtlanggdmdpjfbaaDoorLaidOn
import Derived.Deep.DeepCutAuto
namespace Go.Proofs.YtlanggdmdpjfbaaDoor
open Go Go.RowKit
set_option linter.unusedVariables false

def lo24 (v : Int) : Int := if v.tmod 100000 < 0 then -(v.tmod 100000) else v.tmod 100000
theorem tmod24_bd (v : Int) : -99999 ≤ v.tmod 100000 ∧ v.tmod 100000 ≤ 99999 := by
  by_cases h : 0 ≤ v
  · rw [Int.tmod_eq_emod_of_nonneg h]; omega
  · have e : v = -(-v) := by omega
    rw [e, Int.neg_tmod, Int.tmod_eq_emod_of_nonneg (by omega)]; omega
theorem lo24_bd (v : Int) : 0 ≤ lo24 v ∧ lo24 v ≤ 99999 := by
  have := tmod24_bd v
  unfold lo24
  split <;> omega
/-- what is known of a sizing by small losses and needs. -/
structure SzOk24 (T : LTab) (f c : Int) (L : List Int) : Prop where
  cov : (covR T L).c = 0
  cod : siC T f c L = 0
  len : (siL T f c L).length = L.length
  sum : smW (siL T f c L) = siW T f c L
  all : ∀ i, i < L.length → 0 ≤ wF (siL T f c L) i
  bd : am23 (siW T f c L)
theorem sz_ok {T : LTab} (hT : LoT T) (hs : SmT T) (z : List Int) (h0 : 0 < z.length) (h8 : z.length ≤ 8) {f c : Int} (hf : 0 ≤ f) (hfc : f ≤ c) (hc : c ≤ 1000000) : SzOk24 T f c (z.map ab3) := by
  obtain ⟨k1, _, _, _, k2, k3⟩ := cov_small hT hs (ab3_am z) (by simpa using (by omega : z.length ≤ 32))
  have hlen : (z.map ab3).length = z.length := List.length_map _
  have hbd : am23 (siW T f c (z.map ab3)) := clV_bd _ _ _
  have h1 : clC 0 f c = 0 := clC_fine.2 ⟨⟨by decide, by decide⟩, ⟨hf, by omega⟩, ⟨by omega, by omega⟩, hfc⟩
  have hall : ∀ i, i < (z.map ab3).length → 0 ≤ wF (z.map ab3) i ∧ wF (z.map ab3) i < 1000 := fun i hi => by
    have := getI22_mem hi
    obtain ⟨y, _, e⟩ := List.mem_map.1 this
    have := ab3_bd y
    unfold wF
    rw [← e]; omega
  have hok : ShOk (siW T f c (z.map ab3)) (wtL (z.map ab3)) := by
    unfold wtL
    by_cases q : smW (z.map ab3) = 0
    · rw [if_pos q]
      exact shC_fine.1 (ones_fine (by rw [hlen]; omega) (by rw [hlen]; omega) hbd)
    · rw [if_neg q]
      refine ⟨by rw [hlen]; omega, hbd, fun i hi => ⟨(hall i hi).1, by have := (hall i hi).2; omega⟩, ?_, fun e => absurd e q⟩
      have h4 := suF_lt (f := wF (z.map ab3)) (c := 1000) (k := (z.map ab3).length) fun i hi => (hall i hi).2
      unfold smW
      omega
  have hsc : siC T f c (z.map ab3) = 0 := by
    rcases si_ways T f c (z.map ab3) with ⟨q, _⟩ | ⟨_, q, _⟩ | ⟨_, _, _, _, q⟩ | ⟨_, _, _, _, q⟩
    · rw [h1] at q; simp at q
    · exact absurd k1 q
    · exact q
    · rw [q]; exact shC_fine.2 hok
  have hsl : siL T f c (z.map ab3) = shL (siW T f c (z.map ab3)) (wtL (z.map ab3)) := if_pos ⟨hsc, by rw [hlen]; omega⟩
  refine ⟨k1, hsc, by rw [hsl, shL_len, wtL_len], by rw [hsl]; exact sh_sums hok, fun i hi => ?_, hbd⟩
  have hi' : i < (wtL (z.map ab3)).length := by rw [wtL_len]; exact hi
  rw [hsl, shL_at hi']
  rcases sh_low hok hi' with e | e
  all_goals
    rw [e]
    have := hok.pos
    by_cases hS : 0 < smW (wtL (z.map ab3))
    · have := (hok.fl hS hi').1; omega
    · have h2 : smW (wtL (z.map ab3)) = 0 := by omega
      unfold flF
      rw [h2, Int.ediv_zero]; decide
abbrev SzS (w0 : World) (b o : Nat) (s m : Int) (W : World) : Prop := (W.cell? ⟨b, o, none⟩ = some (.int .i64 s) ∧ W.cell? ⟨b, o + 1, none⟩ = some (.int .i64 m)) ∧ Below w0.heap.size w0 W
def SzRel1 (N g : Nat) (w0 : World) (i : Value) (w : World) : Prop :=
  ∃ (k n : Nat) (T : LTab), k ≤ N ∧ n ≤ k ∧ i = .int .i64 (k : Int) ∧ LoAt w w0.heap.size g n T ∧ SmT T ∧ Below w0.heap.size w0 w
def SzRel2 (z : List Int) (w3 : World) (v i : Value) (w : World) : Prop :=
  ∃ k : Nat, k ≤ z.length ∧ i = .int .i64 (k : Int) ∧ w.ownsRow w3.heap.size 2 1 v k (((z.take k).map ab3).map (Value.int .i64)) ∧ Below w3.heap.size w3 w
def SzRel3 (N : Nat) (M : List Int) (w0 : World) (s i : Value) (w : World) : Prop := ∃ k : Nat, k ≤ N ∧ i = .int .i64 (k : Int) ∧ s = .int .i64 (suF (wF M) k) ∧ w0 = w
theorem sz_parts {n f c v : Int} (h : f ≤ c) (hv : v = clV n f c) (hb : bdOk n f c) : (v = f ∧ (f != n) = true ∧ decide (f ≤ n) = false ∧ decide (n < f) = true) ∨ (v = c ∧ c = f ∧ (c != n) = true ∧ decide (f ≤ n) = true ∧ decide (n ≤ c) = false ∧ decide (n < f) = false) ∨ (v = c ∧ (c != f) = true ∧ (c != n) = true ∧ decide (f ≤ n) = true ∧ decide (n ≤ c) = false ∧ decide (n < f) = false) ∨ (v = n ∧ decide (f ≤ n) = true ∧ decide (n ≤ c) = true ∧ decide (n < f) = false) := by
  have hv2 : v = (if n < f then f else if c < n then c else n) := hv.trans (if_pos hb)
  simp only [decide_eq_true_iff, decide_eq_false_iff_not, bne_iff_ne, ne_eq]
  rcases cl_parts h hv2 with ⟨p1, p2, p3⟩ | ⟨p1, p2, p3⟩ | ⟨p1, p2, p3⟩
  · exact .inl ⟨p3, by omega, by omega, by omega⟩
  · by_cases q : c = f
    · exact .inr (.inl ⟨p3, q, by omega, by omega, by omega, by omega⟩)
    · exact .inr (.inr (.inl ⟨p3, q, by omega, by omega, by omega, by omega⟩))
  · exact .inr (.inr (.inr ⟨p3, by omega, by omega, by omega⟩))
set_option maxRecDepth 100000 in
set_option maxHeartbeats 6400000 in
theorem walk_fundSizes (v : Value) (l : List LossD) (p q : Int) (u : Value) (z : List Int) (A : Nat → Addr) (w : World) (hr : Row lossV 3 w v l) (hl : ∀ x ∈ l, LossBig x) (p0 : -9223372036854775808 ≤ p) (p1 : p ≤ 9223372036854775807) (q0 : -9223372036854775808 ≤ q) (q1 : q ≤ 9223372036854775807) (hz : Reads .i64 w u z) (hzb : ∀ x ∈ z, -9223372036854775808 ≤ x ∧ x ≤ 9223372036854775807) (hS : SentsOn [2, 3, 4, 5] w A) :
    Calls Tryd.prog 4 #[v, .int .i64 p, .int .i64 q, u] w fun e w' => e = .returned (.bool true) ∧ Below w.heap.size w w' := by
  obtain ⟨va, vc, rfl⟩ := row_slice hr
  obtain ⟨za, zc, rfl⟩ := reads_slice hz
  have hE := hidden hS.on
  have hE2 := hidden (hS.on.sub (ks := [2]) (by simp))
  have hF := hidden (law24_first A w hS.on)
  clear hS hzb
  by_cases h30 : (30 : Int) < (l.length : Int)
  · have d1 : decide ((30 : Int) < (l.length : Int)) = true := decide_eq_true h30
    clear hr hl hz hE hE2 h30 p0 p1 q0 q1
    go_enter Tryd.func4, Tryd.ntmps4
    go_wp2_with fail
    refine hF.out.mono ?_
    rintro r w1 ⟨rfl, hb⟩
    replace hb := hidden hb
    go_wp2
    go_ret
    exact ⟨rfl, hb.out⟩
  have d1 : decide ((30 : Int) < (l.length : Int)) = false := decide_eq_false h30
  by_cases h8 : (8 : Int) < (z.length : Int)
  · have d2 : decide ((8 : Int) < (z.length : Int)) = true := decide_eq_true h8
    clear hr hl hz hE hE2 h30 h8 p0 p1 q0 q1
    go_enter Tryd.func4, Tryd.ntmps4
    go_wp2_with fail
    refine hF.out.mono ?_
    rintro r w1 ⟨rfl, hb⟩
    replace hb := hidden hb
    go_wp2
    go_ret
    exact ⟨rfl, hb.out⟩
  have d2 : decide ((8 : Int) < (z.length : Int)) = false := decide_eq_false h8
  by_cases h0 : z.length = 0
  · have d3 : ((z.length : Int) == 0) = true := by simpa using h0
    clear hr hl hz hE hE2 h30 h8 p0 p1 q0 q1 h0
    go_enter Tryd.func4, Tryd.ntmps4
    go_wp2_with fail
    refine hF.out.mono ?_
    rintro r w1 ⟨rfl, hb⟩
    replace hb := hidden hb
    go_wp2
    go_ret
    exact ⟨rfl, hb.out⟩
  have d3 : ((z.length : Int) == 0) = false := by simpa using h0
  have hl40 : l.length ≤ 30 := by omega
  have hz8 : z.length ≤ 8 := by omega
  have hz0 := hidden (show 0 < z.length from by omega)
  have hx := hidden (fun k hk W (h2 : Below w.heap.size w W) => rowLo_at (hr.below lossV_len h2 (Nat.le_refl _)) k hk)
  have hzx := hidden (fun k hk W (h2 : Below w.heap.size w W) => (hz.below h2 (Nat.le_refl _)).cell k hk)
  have hbig := hidden (fun k (hk : k < l.length) => hl (l.getD k lossZ) (getLo_mem hk))
  have hSz := hidden (fun W (h2 : Below w.heap.size w W) (B g n : Nat) (T : LTab) hL f c v l hr => size_any24 A W B g n T hL f c v l hr (hE.out.below h2 (Nat.le_refl _)))
  have hCov := hidden (fun W (h2 : Below w.heap.size w W) (B g n : Nat) (T : LTab) hL v l hr => loCover_any A W B g n T hL v l hr ((hE.out.sub (ks := [2, 3, 4]) (by simp)).below h2 (Nat.le_refl _)))
  have nP := hidden (fun W => number_any p 100000 W p0 p1 (by decide) (by decide))
  have nQ := hidden (fun W => number_any q 100000 W q0 q1 (by decide) (by decide))
  have pI : 0 ≤ p % 100000 ∧ p % 100000 ≤ 99999 := by omega
  have qI : 0 ≤ q % 100000 ∧ q % 100000 ≤ 99999 := by omega
  generalize p % 100000 = f at *
  generalize q % 100000 = d at *
  replace pI := hidden pI
  replace qI := hidden qI
  unfold SzAt24 at hSz
  clear hr hl hz hE h30 h8 h0 p0 p1 q0 q1
  go_enter Tryd.func4, Tryd.ntmps4
  go_wp2_with fail
  refine hF.out.mono ?_
  rintro r w1 ⟨rfl, hb⟩
  clear hF
  have hn := hidden (lnew22 hb)
  have hg := hidden hb.size
  clear hb
  go_wp2_with fail
  clear d1 d2 d3
  go_loopw [11] (fun i wr => SzRel1 l.length w1.heap.size w i wr) (fun i _ => l.length - (intOf i).toNat)
  case atStart => exact ⟨0, 0, noL, Nat.zero_le _, Nat.le_refl _, rfl, hn.out.1, noL_sm, hn.out.2⟩
  case round =>
    clear hn
    obtain ⟨k, n, T, hk, hnk, rfl, hL, hsm, hb⟩ := hrel
    by_cases hlt : k < l.length
    · obtain ⟨b, o, rfl, _⟩ := hx.out k hlt _ hb
      have hq := hidden (fun W (h2 : Below w.heap.size w W) => show W.cell? ⟨b, o + k * 3, none⟩ = some (.int .i64 (l.getD k lossZ).s) ∧ W.cell? ⟨b, o + k * 3 + 1, none⟩ = some (.int .i64 (l.getD k lossZ).m) ∧ W.cell? ⟨b, o + k * 3 + 2, none⟩ = some (.int .i64 (l.getD k lossZ).x) by
        obtain ⟨b', o', e, q⟩ := hx.out k hlt _ h2
        simp only [Option.some.injEq, Addr.mk.injEq, and_true] at e
        obtain ⟨rfl, rfl⟩ := e
        exact q)
      have hlI : (k : Int) < (l.length : Int) := by omega
      have hB := hbig.out k hlt
      have hn6 : n < 1000000 := by omega
      generalize l.getD k lossZ = e at *
      obtain ⟨s, m, x⟩ := e
      unfold LossBig at hB
      obtain ⟨⟨m0, m1⟩, ⟨m2, m3⟩, m4, m5⟩ := hB
      simp only at hq m0 m1 m2 m3 m4 m5
      have nA := hidden (fun W => number_any s 16 W m0 m1 (by decide) (by decide))
      have nB := hidden (fun W => number_any m 8 W m2 m3 (by decide) (by decide))
      have hsI : 0 ≤ s % 16 ∧ s % 16 ≤ 15 := by omega
      have hmI : 0 ≤ m % 8 ∧ m % 8 ≤ 7 := by omega
      have hzb6 := tmod24_bd x
      have hab := hidden (show lo24 x = if x.tmod 100000 < 0 then -(x.tmod 100000) else x.tmod 100000 from rfl)
      have habb := hidden (lo24_bd x)
      generalize s % 16 = a at *
      generalize m % 8 = c at *
      have hwp : IntKind.i64.wrap (a + 1) = a + 1 := by rw [IntKind.wrap_i64]; omega
      have hwq : IntKind.i64.wrap (c + 1) = c + 1 := by rw [IntKind.wrap_i64]; omega
      have hq' := hidden (fun W (h : Below w.heap.size w W) => show SzS w b (o + k * 3) s m W from ⟨⟨(hq.out W h).1, (hq.out W h).2.1⟩, h⟩)
      obtain ⟨_, _, q2⟩ := hq.out _ hb
      have hsm2 := hidden (hsm.set (a + 1, c + 1) (show lo24 x ≤ 999999 by have := habb.out; omega))
      have hSet := hidden (fun y => lset22 (W := wr.drew) (show Below w.heap.size w wr.drew from hb.drew) (hL.same (w' := wr.drew) fun _ _ => rfl) hn6 (hE2.out) (a + 1, c + 1) y)
      have hs0 := hidden (hq'.out _ hb.drew)
      clear hx hzx hbig m0 m1 m2 m3 hCov hSz nP nQ hL hsm hE2 hb hg
      generalize hzv : x.tmod 100000 = zz at *
      have hways : (decide (zz < 0) = true ∧ lo24 x = -zz) ∨ (decide (zz < 0) = false ∧ lo24 x = zz) := by
        rw [hab.out]
        by_cases h0 : zz < 0
        · exact .inl ⟨decide_eq_true h0, if_pos h0⟩
        · exact .inr ⟨decide_eq_false h0, if_neg h0⟩
      clear hab habb
      rcases hways with ⟨y1, y2⟩ | ⟨y1, y2⟩
      all_goals
        rw [y2] at hsm2
        clear y2
      · go_wp2_with fail
        have hSet1 := hidden (hSet.out (-zz))
        go_region_held3 (fun W => (W.cell? ⟨b, o + k * 3, none⟩ = some (.int .i64 s) ∧ W.cell? ⟨b, o + k * 3 + 1, none⟩ = some (.int .i64 m)) ∧ Below w.heap.size w W)
          ((first | exact hs0.out | assumption | exact hq'.out _ (by assumption)))
          ((first
            | (go_at_call 17; (with_reducible refine (nA.out _).mono ?_); rintro e w' ⟨rfl, rfl⟩)
            | (go_at_call 17; (with_reducible refine (nB.out _).mono ?_); rintro e w' ⟨rfl, rfl⟩)
            | (go_at_call 8; (with_reducible refine hSet1.out.mono ?_); rintro e w5 ⟨rfl, hL5, hb5, _⟩)))
        all_goals
          replace hL5 := hidden hL5
          replace hb5 := hidden hb5
          go_wp2
          go_roundw
          case rel => exact ⟨k + 1, n + 1, _, hlt, by omega, by go_num, hL5.out, hsm2.out, hb5.out⟩
          case measure => simp [intOf]; omega
      · go_wp2_with fail
        have hSet1 := hidden (hSet.out zz)
        go_region_held3 (fun W => (W.cell? ⟨b, o + k * 3, none⟩ = some (.int .i64 s) ∧ W.cell? ⟨b, o + k * 3 + 1, none⟩ = some (.int .i64 m)) ∧ Below w.heap.size w W)
          ((first | exact hs0.out | assumption | exact hq'.out _ (by assumption)))
          ((first
            | (go_at_call 17; (with_reducible refine (nA.out _).mono ?_); rintro e w' ⟨rfl, rfl⟩)
            | (go_at_call 17; (with_reducible refine (nB.out _).mono ?_); rintro e w' ⟨rfl, rfl⟩)
            | (go_at_call 8; (with_reducible refine hSet1.out.mono ?_); rintro e w5 ⟨rfl, hL5, hb5, _⟩)))
        all_goals
          replace hL5 := hidden hL5
          replace hb5 := hidden hb5
          go_wp2
          go_roundw
          case rel => exact ⟨k + 1, n + 1, _, hlt, by omega, by go_num, hL5.out, hsm2.out, hb5.out⟩
          case measure => simp [intOf]; omega
    · obtain rfl : k = l.length := by omega
      obtain ⟨w3, rfl⟩ : ∃ w3, w3 = wr := ⟨_, rfl⟩
      generalize w1.heap.size = g at *
      replace hL := hidden hL
      replace hsm := hidden hsm
      replace hb := hidden hb
      clear hx hbig hE2 hlt hk hg
      go_wp2_with fail
      go_loopw [13, 14] (fun v i wr => SzRel2 z w3 v i wr) (fun _ i _ => z.length - (intOf i).toNat)
      case atStart => exact ⟨0, Nat.zero_le _, rfl, World.ownsRow_nil _ _ _ _, Below.refl _ _⟩
      case round =>
        obtain ⟨k, hk, rfl, hv, hbx⟩ := hrel
        by_cases hlt : k < z.length
        · obtain ⟨b, o, rfl, q0⟩ := hzx.out k hlt wr (hb.out.trans (hbx.mono hb.out.size))
          have hzI : (k : Int) < (z.length : Int) := by omega
          have hk8 : k ≤ 1099511627776 := by omega
          have tk1 := hidden (take_map22 ab3 z k hlt)
          have hzb3 := tmod3_bd (z.getD k 0)
          have hab := hidden (show ab3 (z.getD k 0) = if (z.getD k 0).tmod 1000 < 0 then -((z.getD k 0).tmod 1000) else (z.getD k 0).tmod 1000 from rfl)
          generalize z.getD k 0 = x at *
          generalize hzv : x.tmod 1000 = zz at *
          generalize (z.take k).map ab3 = L1 at *
          replace hv := hidden hv
          have hbs := hidden hbx.size
          replace hbx := hidden hbx
          have hways : (decide (zz < 0) = true ∧ ab3 x = -zz) ∨ (decide (zz < 0) = false ∧ ab3 x = zz) := by
            rw [hab.out]
            by_cases h0 : zz < 0
            · exact .inl ⟨decide_eq_true h0, if_pos h0⟩
            · exact .inr ⟨decide_eq_false h0, if_neg h0⟩
          clear hab hzx hCov hSz nP nQ hL hsm
          rcases hways with ⟨y1, y2⟩ | ⟨y1, y2⟩
          · rw [y2] at tk1
            clear y2
            go_wp2_with (at_builtin; refine wpList_app23 rfl _ _ 23 rfl 2 Tryd.underlying23 infoI23 rfl (by decide) w3.heap.size _ k (L1.map (Value.int .i64)) rfl hv.out (.int .i64 (-zz)) _ rfl (by simp) rfl hk8 hbs.out ?_)
            intro v2 w5 hv2 hb6 _ _
            replace hv2 := hidden hv2
            have hbx2 := hidden (hbx.out.trans hb6)
            clear hv hb6 hbx hbs
            go_wp2
            go_roundw
            case rel => exact ⟨k + 1, hlt, by go_num, by rw [tk1.out, map_snoc23]; exact hv2.out, hbx2.out⟩
            case measure => simp [intOf]; omega
          · rw [y2] at tk1
            clear y2
            go_wp2_with (at_builtin; refine wpList_app23 rfl _ _ 23 rfl 2 Tryd.underlying23 infoI23 rfl (by decide) w3.heap.size _ k (L1.map (Value.int .i64)) rfl hv.out (.int .i64 zz) _ rfl (by simp) rfl hk8 hbs.out ?_)
            intro v2 w5 hv2 hb6 _ _
            replace hv2 := hidden hv2
            have hbx2 := hidden (hbx.out.trans hb6)
            clear hv hb6 hbx hbs
            go_wp2
            go_roundw
            case rel => exact ⟨k + 1, hlt, by go_num, by rw [tk1.out, map_snoc23]; exact hv2.out, hbx2.out⟩
            case measure => simp [intOf]; omega
        · obtain rfl : k = z.length := by omega
          have rd := reads_of_own hv
          rw [List.take_length] at rd
          have hb4 := hidden (hb.out.trans (hbx.mono hb.out.size))
          have hL4 := hidden (hL.out.below hbx (Nat.le_refl _))
          have hO := sz_ok hL.out.lo hsm.out z hz0.out hz8 (f := f) (c := f + d) pI.out.1 (by have := qI.out.1; omega) (by have := qI.out.2; have := pI.out.2; omega)
          have hlen : (z.map ab3).length = z.length := List.length_map _
          have hL8 : ((z.map ab3).length : Int) ≤ 8 := by omega
          have hL0 : 0 < (z.map ab3).length := by rw [hlen]; exact hz0.out
          clear hlen hlt hk hv hbx hL hsm hz0 hzx hb hz8
          generalize z.map ab3 = L at *
          obtain ⟨cc, hcc⟩ : ∃ cc, cc = f + d := ⟨_, rfl⟩
          rw [← hcc] at hO
          have pI' := pI.out
          have qI' := qI.out
          have hwc : IntKind.i64.wrap (f + d) = cc := by rw [IntKind.wrap_i64, hcc]; omega
          have hpt := hidden (sz_parts (n := (covR T L).v) (f := f) (c := cc) (v := siW T f cc L) (by omega) rfl ⟨cov_v T L, ⟨by omega, by omega⟩, ⟨by omega, by omega⟩, by omega⟩)
          have hcf : decide (cc < f) = false := decide_eq_false (by omega)
          have hsN := si_good hO.cod
          have hZ := hidden ((hSz.out wr hb4.out _ _ _ _ hL4.out f cc u13 L rd).mono (fun e w' h => show ∃ (a : Option Addr) (c' : Nat), e = .returned (.tuple #[fuA f cc (siW T f cc L) (covR T L).s (.slice a L.length c'), .nilIface]) ∧ Reads .i64 w' (.slice a L.length c') (siL T f cc L) ∧ Below wr.heap.size wr w' from by
            obtain ⟨v', h1, h2, _, h4⟩ := h
            obtain ⟨a, c', rfl⟩ := reads_slice h2
            rw [hO.cod, errOf_fine] at h1
            simp only [hsN] at h1
            rw [hO.len] at h1 h2
            exact ⟨a, c', h1, h2, h4⟩))
          have hK := hidden (fun W (hW : Below wr.heap.size wr W) => hCov.out W (hb4.out.trans (hW.mono hb4.out.size)) _ _ _ _ (hL4.out.below hW (Nat.le_refl _)) u13 L (rd.below hW (Nat.le_refl _)))
          rw [hO.cov, errOf_fine] at hK
          have hMl := hidden hO.len
          have hMs := hidden hO.sum
          have hMa := hidden hO.all
          have htb := hidden hO.bd
          obtain ⟨av, cv', rfl⟩ := reads_slice rd
          clear hO hsN hcc pI pI' qI qI' hSz hCov hL4 rd
          generalize siL T f cc L = M at *
          generalize siW T f cc L = t at *
          generalize (covR T L).v = cv at *
          generalize (covR T L).s = sc at *
          go_wp2_with fail
          (with_reducible refine (nP.out _).mono ?_)
          rintro e w' ⟨rfl, rfl⟩
          go_wp2_with fail
          (with_reducible refine (nQ.out _).mono ?_)
          rintro e w' ⟨rfl, rfl⟩
          clear nP nQ
          go_wp2_with fail
          (with_reducible refine hZ.out.mono ?_)
          rintro e w5 ⟨a5, c5, rfl, hv5, hb5⟩
          clear hZ
          go_wp2_with fail
          have hbA := (Below.refl w5.heap.size w5).alloc (Nat.le_refl _) (fuO fuTy f cc t sc (.slice a5 L.length c5))
          have hb6 := hb5.trans (hbA.mono hb5.size)
          have hK1 := hidden (hK.out _ hb6)
          have hF6 := heap_alloc_new w5 (fuO fuTy f cc t sc (.slice a5 L.length c5))
          have hv6 := hv5.below hbA (Nat.le_refl _)
          replace hb6 := hidden (hb4.out.trans (hb6.mono hb4.out.size))
          clear hK hbA hv5 hb5 hb4
          generalize w5.alloc (fuO fuTy f cc t sc (.slice a5 L.length c5)) = w6 at *
          generalize w5.heap.size = F at *
          (with_reducible refine hK1.out.mono ?_)
          rintro e w7 ⟨rfl, hb7⟩
          have hF7 := row_later24 hF6 hb7
          have hv7 := hidden (hv6.below hb7 (Nat.le_refl _))
          have hb8 := hidden (hb6.out.trans (hb7.mono hb6.out.size))
          clear hK1 hF6 hv6 hb6 hb7
          obtain ⟨⟨y0, y1, y2, y3, y4⟩, hfr⟩ := fu_cells hF7
          clear hfr hL0
          replace hF7 := hidden hF7
          go_upto_region 26 with (fail)
          go_cut [188] (fun v wx => v = .bool false ∧ w7 = wx)
          case first =>
            as_aux_lemma =>
              clear hMl hMs hMa hv7 htb
              rcases hpt.out with ⟨rfl, k1, k2, k3⟩ | ⟨rfl, rfl, k1, k2, k3, k4⟩ | ⟨rfl, k0, k1, k2, k3, k4⟩ | ⟨rfl, k2, k3, k4⟩
              · go_wp2_with fail
                go_meet
                exact ⟨rfl, rfl⟩
              · go_wp2_with fail
                go_meet
                exact ⟨rfl, rfl⟩
              · go_wp2_with fail
                go_meet
                exact ⟨rfl, rfl⟩
              · have k5 : decide (cc < t) = false := decide_eq_false (by have := of_decide_eq_true k3; omega)
                go_wp2_with fail
                go_meet
                exact ⟨rfl, rfl⟩
          case rest =>
            obtain ⟨rfl, rfl⟩ := hcut
            have hx3 := hidden (fun i (hi : i < L.length) => hv7.out.cell i hi)
            have hwl := hidden (fun k (hk : k < L.length) => show IntKind.i64.wrap (suF (wF M) k + wF M k) = suF (wF M) (k + 1) from by
              have h1 : 0 ≤ suF (wF M) k := suF_pos fun i hi => hMa.out i (by omega)
              have h2 := suF_upto (f := wF M) (k := M.length) (fun i hi => hMa.out i (by rw [← hMl.out]; exact hi)) (k + 1) (by rw [hMl.out]; omega)
              have h3 : suF (wF M) M.length = t := hMs.out
              have h4 := htb.out.2
              have h5 : suF (wF M) (k + 1) = suF (wF M) k + wF M k := rfl
              have h6 := hMa.out k hk
              rw [IntKind.wrap_i64, h5]
              rw [h3, h5] at h2
              omega)
            have hsum := hidden (show suF (wF M) L.length = t from by rw [← hMl.out]; exact hMs.out)
            have hMb := hidden (show ∀ i, -9223372036854775808 ≤ wF M i ∧ wF M i ≤ 9223372036854775807 from fun i => by
              by_cases hi : i < L.length
              · have h0 := hMa.out i hi
                have h2 := suF_mono (f := wF M) (k := L.length) (fun j hj => hMa.out j hj) i hi
                rw [hsum.out] at h2
                have := htb.out.2
                omega
              · rw [wF_over (by rw [hMl.out]; omega)]; decide)
            have hCa := hidden (calls_any24 (.slice none 0 0) (.slice a5 L.length c5) [] M w7 (Reads.nil _ _) hv7.out (by simp) (by rw [hMl.out]; omega) (fun i => by rw [show wF [] i = 0 from rfl]; decide) hMb.out)
            unfold CaAt24 at hCa
            rw [cfL_nil (fun i hi => ⟨hMa.out i (by rw [← hMl.out]; exact hi), (hMb.out i).2⟩)] at hCa
            clear hpt hMb
            go_wp2_with fail
            go_loopw [23, 24] (fun s i wr => SzRel3 L.length M w7 s i wr) (fun _ i _ => L.length - (intOf i).toNat)
            case atStart => exact ⟨0, Nat.zero_le _, rfl, rfl, rfl⟩
            case round =>
              obtain ⟨k, hk, rfl, rfl, rfl⟩ := hrel
              by_cases hlt : k < L.length
              · obtain ⟨b3, o3, rfl, q3⟩ := hx3.out k hlt
                rw [show M.getD k 0 = wF M k from rfl] at q3
                have hlI : (k : Int) < (L.length : Int) := by omega
                have hw1 := hwl.out k hlt
                generalize hsk : suF (wF M) (k + 1) = s1 at *
                replace hsk := hidden hsk
                generalize suF (wF M) k = s0 at *
                generalize wF M k = x at *
                clear hCa hv7 hwl hx3 hMl hMs hMa htb hwc
                go_wp2_with fail
                go_roundw
                case rel => exact ⟨k + 1, hlt, by go_num, by rw [hsk.out], rfl⟩
                case measure => simp [intOf]; omega
              · obtain rfl : k = L.length := by omega
                rw [hsum.out]
                clear hx3 hwl hsum hMs hMa htb hlt hk hwc
                go_wp2_with fail
                (with_reducible refine hCa.out.mono ?_)
                rintro e w8 ⟨v8, rfl, hv8, _, hb9⟩
                obtain ⟨a8, c8, rfl⟩ := reads_slice hv8
                rw [hMl.out] at hv8
                rw [hMl.out]
                have hSL := hidden (sameLongs_any (.slice a8 L.length c8) (.slice a5 L.length c5) M M w8 hv8 (hv7.out.below hb9 (Nat.le_refl _)) (by rw [hMl.out]; omega))
                rw [decide_eq_true rfl] at hSL
                have hF8 := row_later24 hF7.out hb9
                replace hb8 := hidden (hb8.out.trans (hb9.mono hb8.out.size))
                clear y0 y1 y2 y3 y4 hCa hv8 hv7 hb9
                obtain ⟨⟨y0, y1, y2, y3, y4⟩, _⟩ := fu_cells hF8
                go_wp2_with fail
                (with_reducible refine hSL.out.mono ?_)
                rintro e w9 ⟨rfl, m, rfl⟩
                have hF9 : (w8.drewN m).heap[F]? = some (fuO fuTy f cc t sc (.slice a5 L.length c5)) := hF8
                clear y0 y1 y2 y3 y4 hSL
                obtain ⟨⟨y0, y1, y2, y3, y4⟩, _⟩ := fu_cells hF9
                go_wp2
                go_ret
                exact ⟨rfl, below_drewN hb8.out⟩
end Go.Proofs.YtlanggdmdpjfbaaDoor
