/-
  ShareScales.
-/
import Derived.Test.YtddoibnagbbndaaDoorShareDo
import Derived.Test.YtddoibnagbbndaaDoorLaidOn
import Derived.BigQuiet
namespace Go.Proofs.YtddoibnagbbndaaDoor
open Go Go.RowKit
set_option linter.unusedVariables false

def ScRel1 (L : List Int) (w1 : World) (a b i : Value) (w : World) : Prop :=
  ∃ k : Nat, k ≤ L.length ∧ i = .int .i64 (k : Int) ∧ w.ownsRow w1.heap.size 2 1 a k ((aL23 (L.take k)).map (Value.int .i64)) ∧ w.ownsRow w1.heap.size 2 1 b k ((bL23 (L.take k)).map (Value.int .i64)) ∧
    (∀ g, a.ownBlock = some g → b.ownBlock ≠ some g) ∧ Below w1.heap.size w1 w
def ScRel2 (N : Nat) (w1 : World) (a i : Value) (w : World) : Prop :=
  ∃ k : Nat, k ≤ N ∧ i = .int .i64 (k : Int) ∧ w.ownsRow w1.heap.size 2 1 a k ((List.replicate k (3 : Int)).map (Value.int .i64)) ∧ Below w1.heap.size w1 w
def ScRel3 (N : Nat) (w1 : World) (i : Value) (w : World) : Prop := ∃ k : Nat, k ≤ N ∧ i = .int .i64 (k : Int) ∧ w1 = w
theorem spA_fine {W : Int} {L : List Int} (h : shC W L = 0) : spA W L = shL W L := if_pos h
theorem tmod6_bd23 (x : Int) : -1000000 < x.tmod 1000000 ∧ x.tmod 1000000 < 1000000 := by
  have h1 := Int.tmod_lt_of_pos x (show (0 : Int) < 1000000 by decide)
  have h2 := Int.tmod_lt_of_pos (-x) (show (0 : Int) < 1000000 by decide)
  rw [Int.neg_tmod] at h2
  omega
set_option maxRecDepth 100000 in
set_option maxHeartbeats 12800000 in
theorem walk_shareScales (W : Int) (v : Value) (L : List Int) (n : Int) (A : Nat → Addr) (w : World) (hW : -9223372036854775808 ≤ W) (hW2 : W ≤ 9223372036854775807) (h : Reads .i64 w v L) (hz : ∀ x ∈ L, -9223372036854775808 ≤ x ∧ x ≤ 9223372036854775807) (hn : -9223372036854775808 ≤ n) (hn2 : n ≤ 9223372036854775807) (hS : SentsOn [2, 3, 4, 5] w A) :
    Calls Tryd.prog 5 #[.int .i64 W, v, .int .i64 n] w fun e w' => e = .returned (.bool true) ∧ Below w.heap.size w w' := by
  have hF := hidden (law23_first A w hS.on)
  have hE := hidden (fun W' (hb : Below w.heap.size w W') => hS.on.below hb (Nat.le_refl _))
  obtain ⟨z0, hz0, hz1, hzw⟩ : ∃ z0 : Int, 0 ≤ z0 ∧ z0 ≤ 9223372036854775807 ∧ ((W < 0 ∧ IntKind.i64.wrap (W + 1) = W + 1 ∧ IntKind.i64.wrap (-(W + 1)) = z0 ∧ decide (W < 0) = true) ∨ (¬ W < 0 ∧ W = z0 ∧ decide (W < 0) = false)) := by
    by_cases q : W < 0
    · exact ⟨-(W + 1), by omega, by omega, .inl ⟨q, by rw [IntKind.wrap_i64]; omega, by rw [IntKind.wrap_i64]; omega, decide_eq_true q⟩⟩
    · exact ⟨W, by omega, by omega, .inr ⟨q, rfl, decide_eq_false q⟩⟩
  obtain ⟨z, hzz⟩ : ∃ z : Int, z = z0 % 1000000000000 := ⟨_, rfl⟩
  have hzt : Int.tmod z0 1000000000000 = z := by rw [Int.tmod_eq_emod_of_nonneg hz0, hzz]
  have hzt2 : z0 % 1000000000000 = z := hzz.symm
  have hzb : am23 z := by unfold am23; omega
  have hzb2 : 0 ≤ z ∧ z < 1000000000000 := by omega
  obtain ⟨N, hN, hN1, hN2⟩ : ∃ N : Nat, (N : Int) = n % 32 + 1 ∧ 1 ≤ N ∧ N ≤ 32 := ⟨(n % 32 + 1).toNat, by omega, by omega, by omega⟩
  have hNum := hidden (fun W' => number_any n 32 W' hn hn2 (by omega) (by omega))
  have hwN : IntKind.i64.wrap (n % 32 + 1) = (N : Int) := by rw [IntKind.wrap_i64]; omega
  generalize n % 32 = n1 at *
  obtain ⟨a1, c1, rfl⟩ := reads_slice h
  have hx := hidden (fun i hi W' (hb : Below w.heap.size w W') => (h.below hb (Nat.le_refl _)).cell i hi)
  clear h hS hzz hz hn hn2 hN hz1
  replace hzw := hidden hzw
  go_enter Tryd.func5, Tryd.ntmps5
  go_wp2_with fail
  refine hF.out.mono ?_
  rintro e w1 ⟨rfl, hb1⟩
  replace hb1 := hidden hb1
  clear hF
  go_upto_if 28 with (fail)
  go_cut [0] (fun u wx => u = .int .i64 z0 ∧ w1 = wx)
  case first =>
    rcases hzw.out with ⟨r1, r2, r3, r4⟩ | ⟨r1, r3, r4⟩
    · clear hzt hzt2
      go_wp2_with fail
      go_meet
      exact ⟨rfl, rfl⟩
    · subst r3
      clear hzt hzt2
      go_wp2_with fail
      go_meet
      exact ⟨rfl, rfl⟩
  case rest =>
    obtain ⟨rfl, rfl⟩ := hcut
    clear hzw hW hW2
    by_cases h20 : (20 : Int) < (L.length : Int)
    · go_wp2
      go_ret
      exact ⟨rfl, hb1.out⟩
    by_cases h00 : L.length = 0
    · have e0 : ((L.length : Int) == 0) = true := by rw [h00]; rfl
      clear h00
      go_wp2
      go_ret
      exact ⟨rfl, hb1.out⟩
    have e0 : ((L.length : Int) == 0) = false := by rw [beq_eq_false_iff_ne]; omega
    have hl0 : 0 < L.length := by omega
    have hl1 : L.length ≤ 20 := by omega
    have hsc := hidden (sh_scale hzb hl0 hl1)
    have hone := hidden (sh_one hzb)
    have hev := hidden (sh_even hzb hN1 hN2)
    clear h00
    go_wp2_with fail
    clear hzt hzt2
    go_loopw [8, 9, 10] (fun a b i wr => ScRel1 L w1 a b i wr) (fun _ _ i _ => L.length - (RowKit.intOf i).toNat)
    case atStart => exact ⟨0, Nat.zero_le _, rfl, World.ownsRow_nil _ _ _ _, World.ownsRow_nil _ _ _ _, (fun b h => by cases h), Below.refl _ _⟩
    case round =>
      obtain ⟨k, hk, rfl, hv, hu, hne, hbx⟩ := hrel
      by_cases hlt : k < L.length
      · obtain ⟨b, o, rfl, q0⟩ := hx.out k hlt wr (hb1.out.trans (hbx.mono hb1.out.size))
        have hzI : (k : Int) < (L.length : Int) := by omega
        have hk8 : k ≤ 1099511627776 := by omega
        have tk1 := hidden (aL_snoc L k hlt)
        have tk2 := hidden (bL_snoc L k hlt)
        rw [show L.getD k 0 = wF L k from rfl] at q0
        have hbd := tmod6_bd23 (wF L k)
        have hsd := sv_bd (wF L k)
        have hab : sv23 (wF L k) = if (wF L k).tmod 1000000 < 0 then -(wF L k).tmod 1000000 else (wF L k).tmod 1000000 := rfl
        generalize wF L k = x at *
        generalize hzv : x.tmod 1000000 = zz at *
        generalize sv23 x = s at *
        obtain ⟨s1, hs1⟩ : ∃ s1, s1 = s + 1 := ⟨_, rfl⟩
        obtain ⟨s2, hs2⟩ : ∃ s2, s2 = 2 * s := ⟨_, rfl⟩
        obtain ⟨s3, hs3⟩ : ∃ s3, s3 = 2 * s + 2 := ⟨_, rfl⟩
        rw [← hs1] at tk1
        rw [← hs3] at tk2
        have hw1 : IntKind.i64.wrap (s + 1) = s1 := by rw [IntKind.wrap_i64]; omega
        have hw2 : IntKind.i64.wrap (2 * s) = s2 := by rw [IntKind.wrap_i64]; omega
        have hw3 : IntKind.i64.wrap (s2 + 2) = s3 := by rw [IntKind.wrap_i64]; omega
        have hw4 := hidden (fun (q : -zz = s) => show IntKind.i64.wrap (-zz) = s from by rw [IntKind.wrap_i64]; omega)
        generalize aL23 (L.take k) = L1 at *
        generalize bL23 (L.take k) = L2 at *
        have hult := hidden (fun b e => (World.ownsRow.lt hu b e).2)
        replace hne := hidden hne
        replace hv := hidden hv
        replace hu := hidden hu
        have hbs := hidden hbx.size
        replace hbx := hidden hbx
        clear hx hsc hone hev hE hNum hs1 hs2 hs3 hsd
        have hzs : (decide (zz < 0) = true ∧ -zz = s ∧ -1000000 < zz ∧ zz < 1000000) ∨ (decide (zz < 0) = false ∧ zz = s ∧ True ∧ True) := by
          by_cases q : zz < 0
          · rw [if_pos q] at hab
            exact .inl ⟨decide_eq_true q, hab.symm, hbd.1, hbd.2⟩
          · rw [if_neg q] at hab
            exact .inr ⟨decide_eq_false q, hab.symm, trivial, trivial⟩
        clear hab hw4 hbd
        rcases hzs with ⟨y1, y2, y3, y4⟩ | ⟨y1, rfl, y3, y4⟩
        all_goals
          go_wp2_with (at_builtin; refine wpList_app23 rfl _ _ 22 rfl 2 Tryd.underlying22 infoI23 rfl (by decide) w1.heap.size _ k (L1.map (Value.int .i64)) rfl hv.out (.int .i64 s1) _ rfl (by simp) rfl hk8 hbs.out ?_)
          intro v2 w4 hv2 hb4 ht4 hb4'
          have hu2 := hidden (own_trd23 hu.out ht4 (fun b e1 e2 => hne.out b e2 e1))
          have hne2 := hidden (show ∀ b, v2.ownBlock = some b → u9.ownBlock ≠ some b from fun b e1 e2 => by
            rcases hb4' with e | ⟨b', e, e3⟩
            · rw [e] at e1; exact hne.out b e1 e2
            · rw [e] at e1
              obtain rfl := Option.some.inj e1
              have := hult.out _ e2
              omega)
          have hvlt := hidden (fun b e => (World.ownsRow.lt hv2 b e).2)
          replace hv2 := hidden hv2
          have hbx2 := hidden (hbx.out.trans hb4)
          have hbs2 := hidden (hbx.out.trans hb4).size
          clear hv hu hne hb4 ht4 hb4' hbx hbs hult
          go_wp2_with (at_builtin; refine wpList_app23 rfl _ _ 22 rfl 2 Tryd.underlying22 infoI23 rfl (by decide) w1.heap.size _ k (L2.map (Value.int .i64)) rfl hu2.out (.int .i64 s3) _ rfl (by simp) rfl hk8 hbs2.out ?_)
          intro u2 w5 hu3 hb5 ht5 hb5'
          have hv3 := hidden (own_trd23 hv2.out ht5 (fun b e1 e2 => hne2.out b e1 e2))
          have hne3 := hidden (show ∀ b, v2.ownBlock = some b → u2.ownBlock ≠ some b from fun b e1 e2 => by
            rcases hb5' with e | ⟨b', e, e3⟩
            · rw [e] at e2; exact hne2.out b e1 e2
            · rw [e] at e2
              obtain rfl := Option.some.inj e2
              have := hvlt.out _ e1
              omega)
          replace hu3 := hidden hu3
          have hbx3 := hidden (hbx2.out.trans hb5)
          clear hv2 hu2 hne2 hb5 ht5 hb5' hbx2 hbs2 hvlt
          go_wp2
          go_roundw
          case rel => exact ⟨k + 1, hlt, by go_num, by rw [tk1.out, map_snoc23]; exact hv3.out, by rw [tk2.out, map_snoc23]; exact hu3.out, hne3.out, hbx3.out⟩
          case measure => simp [RowKit.intOf]; omega
      · obtain rfl : k = L.length := by omega
        rw [List.take_length] at hv hu
        have ra := reads_of_own hv
        have rb := reads_of_own hu
        have hbw := hb1.out.trans (hbx.mono hb1.out.size)
        have k1 := split_any23 A z u8 (aL23 L) wr ra (hE.out _ hbw)
        unfold SpAt23 at k1
        rw [hsc.out.1, errOf_fine, spA_fine hsc.out.1] at k1
        replace k1 := hidden k1
        replace rb := hidden rb
        replace hbw := hidden hbw
        clear hv hu hne hbx ra hx hb1
        go_wp2_with fail
        refine k1.out.mono ?_
        rintro e w2 ⟨va, rfl, hva, hb2⟩
        have rb2 := rb.out.below hb2 (Nat.le_refl _)
        replace hbw := hidden (hbw.out.trans (hb2.mono hbw.out.size))
        have k2 := split_any23 A z u9 (bL23 L) w2 rb2 (hE.out _ hbw.out)
        unfold SpAt23 at k2
        rw [hsc.out.2.1, errOf_fine, spA_fine hsc.out.2.1, hsc.out.2.2] at k2
        replace k2 := hidden k2
        replace hva := hidden hva
        clear k1 rb rb2 hb2
        go_wp2_with fail
        refine k2.out.mono ?_
        rintro e w3 ⟨vb, rfl, hvb, hb3⟩
        have hva3 := hva.out.below hb3 (Nat.le_refl _)
        replace hbw := hidden (hbw.out.trans (hb3.mono hbw.out.size))
        have hb4 := (Below.refl w3.heap.size w3).alloc (Nat.le_refl _) (.cells #[.int .i64 7] 2)
        have hva4 := hidden (hva3.below hb4 (Nat.le_refl _))
        have hvb4 := hidden (hvb.below hb4 (Nat.le_refl _))
        have hbw4 := hbw.out.trans (hb4.mono hbw.out.size)
        have hR := reads_new (k := .i64) (w := w3) (e := 2) #[.int .i64 7] [7] 1 rfl rfl (by decide)
        have k3 := split_any23 A z _ [7] _ hR (hE.out _ hbw4)
        unfold SpAt23 at k3
        rw [hone.out.1, errOf_fine, spA_fine hone.out.1, hone.out.2] at k3
        replace k3 := hidden k3
        replace hbw4 := hidden hbw4
        clear k2 hva hva3 hvb hb3 hb4 hR hbw hsc hone
        go_wp2_with fail
        refine k3.out.mono ?_
        rintro e w4 ⟨vc, rfl, hvc, hb5⟩
        have hva5 := hidden (hva4.out.below hb5 (Nat.le_refl _))
        have hvb5 := hidden (hvb4.out.below hb5 (Nat.le_refl _))
        have hbw5 := hidden (hbw4.out.trans (hb5.mono hbw4.out.size))
        replace hvc := hidden hvc
        clear k3 hva4 hvb4 hbw4 hb5
        go_wp2_with fail
        refine (hNum.out _).mono ?_
        rintro e w5 ⟨rfl, rfl⟩
        clear hNum
        go_wp2_with fail
        go_loopw [18, 19] (fun a i wr => ScRel2 N w4 a i wr) (fun _ i _ => N - (RowKit.intOf i).toNat)
        case atStart => exact ⟨0, Nat.zero_le _, rfl, World.ownsRow_nil _ _ _ _, Below.refl _ _⟩
        case round =>
          obtain ⟨k, hk, rfl, hv, hbx⟩ := hrel
          by_cases hlt : k < N
          · have hkI : (k : Int) < (N : Int) := by omega
            have hk8 : k ≤ 1099511627776 := by omega
            have hrp := hidden (show List.replicate (k + 1) (3 : Int) = List.replicate k 3 ++ [3] from List.replicate_succ')
            generalize List.replicate k (3 : Int) = L3 at *
            replace hv := hidden hv
            have hbs := hidden hbx.size
            replace hbx := hidden hbx
            clear hev hE hva5 hvb5 hvc
            go_wp2_with (at_builtin; refine wpList_app23 rfl _ _ 22 rfl 2 Tryd.underlying22 infoI23 rfl (by decide) w4.heap.size _ k (L3.map (Value.int .i64)) rfl hv.out (.int .i64 3) _ rfl (by simp) rfl hk8 hbs.out ?_)
            intro v2 w5 hv2 hb6 _ _
            replace hv2 := hidden hv2
            have hbx2 := hidden (hbx.out.trans hb6)
            clear hv hb6 hbx hbs
            go_wp2
            go_roundw
            case rel => exact ⟨k + 1, hlt, by go_num, by rw [hrp.out, map_snoc23]; exact hv2.out, hbx2.out⟩
            case measure => simp [RowKit.intOf]; omega
          · obtain rfl : k = N := by omega
            have rd := reads_of_own hv
            have hva6 := hva5.out.below hbx (Nat.le_refl _)
            have hvb6 := hvb5.out.below hbx (Nat.le_refl _)
            have hvc6 := hvc.out.below hbx (Nat.le_refl _)
            have hbw6 := hbw5.out.trans (hbx.mono hbw5.out.size)
            have k4 := split_any23 A z u18 (List.replicate k 3) wr rd (hE.out _ hbw6)
            unfold SpAt23 at k4
            rw [hev.out.1, errOf_fine, spA_fine hev.out.1] at k4
            replace k4 := hidden k4
            replace hva6 := hidden hva6
            replace hvb6 := hidden hvb6
            replace hvc6 := hidden hvc6
            replace hbw6 := hidden hbw6
            clear hv hbx rd hva5 hvb5 hvc hbw5 hE
            go_wp2_with fail
            refine k4.out.mono ?_
            rintro e w6 ⟨vd, rfl, hvd, hb7⟩
            have hva7 := hva6.out.below hb7 (Nat.le_refl _)
            have hvb7 := hvb6.out.below hb7 (Nat.le_refl _)
            have hvc7 := hvc6.out.below hb7 (Nat.le_refl _)
            have hbw7 := hidden (hbw6.out.trans (hb7.mono hbw6.out.size))
            have hln : (shL z (aL23 L)).length ≤ 1000000000 := by
              rw [shL_len]
              unfold aL23
              rw [List.length_map]; omega
            have k5 := hidden (sameLongs_any va vb _ _ w6 hva7 hvb7 hln)
            obtain ⟨b3, o3, c3, rfl⟩ := reads_some hvc7 Nat.zero_lt_one
            have c7 : w6.cell? ⟨b3, o3, none⟩ = some (.int .i64 z) := by
              obtain ⟨b', o', e, q⟩ := hvc7.cell 0 Nat.zero_lt_one
              simp only [Option.some.injEq, Addr.mk.injEq, and_true] at e
              obtain ⟨rfl, rfl⟩ := e
              exact q
            have hlen : (shL z (List.replicate k 3)).length = k := by rw [shL_len, List.length_replicate]
            obtain ⟨b4, o4, c4, rfl⟩ := reads_some hvd (by rw [hlen]; omega)
            have hd := hidden (fun i (hi : i < k) => show w6.cell? ⟨b4, o4 + i, none⟩ = some (.int .i64 (z / (k : Int) + if (i : Int) < z % (k : Int) then 1 else 0)) from by
              rw [← hev.out.2 i hi]
              obtain ⟨b', o', e, q⟩ := hvd.cell i (by rw [hlen]; exact hi)
              simp only [Option.some.injEq, Addr.mk.injEq, and_true] at e
              obtain ⟨rfl, rfl⟩ := e
              exact q)
            rw [hlen]
            have hqb : 0 ≤ z / (k : Int) ∧ z / (k : Int) ≤ z := by
              refine ⟨Int.ediv_nonneg hzb2.1 (by omega), ?_⟩
              exact Int.ediv_le_self _ hzb2.1
            have hq1 : Int.tdiv z (k : Int) = z / (k : Int) := Int.tdiv_eq_ediv_of_nonneg hzb2.1
            have hr1 : Int.tmod z (k : Int) = z % (k : Int) := Int.tmod_eq_emod_of_nonneg hzb2.1
            have hk0 : ¬ (k : Int) = 0 := by omega
            have hk00 : ((k : Int) == 0) = false := by simp; omega
            obtain ⟨q, hq2⟩ : ∃ q, z / (k : Int) = q := ⟨_, rfl⟩
            obtain ⟨r, hr2⟩ : ∃ r, z % (k : Int) = r := ⟨_, rfl⟩
            rw [hq2] at hq1 hqb hd
            rw [hr2] at hr1 hd
            generalize shL z (aL23 L) = M at *
            clear k4 hva6 hvb6 hvc6 hbw6 hb7 hva7 hvb7 hvc7 hvd hln hev hlen
            go_wp2_with fail
            refine k5.out.mono ?_
            rintro e w7 ⟨rfl, m, rfl⟩
            clear k5
            go_wp2_with fail
            go_loopw [22] (fun i wr => ScRel3 k (w6.drewN m) i wr) (fun i _ => k - (RowKit.intOf i).toNat)
            case atStart => exact ⟨0, Nat.zero_le _, rfl, rfl⟩
            case round =>
              obtain ⟨j, hj, rfl, rfl⟩ := hrel
              by_cases hlj : j < k
              · have hjI : (j : Int) < (k : Int) := by omega
                have cj := hd.out j hlj
                by_cases hjr : (j : Int) < r
                · rw [if_pos hjr] at cj
                  have hjB : decide ((j : Int) < r) = true := decide_eq_true hjr
                  obtain ⟨y, hy⟩ : ∃ y, q + 1 = y := ⟨_, rfl⟩
                  have hwq : IntKind.i64.wrap (q + 1) = y := by rw [IntKind.wrap_i64]; omega
                  rw [hy] at cj
                  have hq65 := hidden (show wrap64 (q + 1) = y from by unfold wrap64; omega)
                  have hq66 := hidden (show wrap64 q = q from by unfold wrap64; omega)
                  have hm1 := hidden (show k - (j + 1) < k - j from by omega)
                  clear hd hqb hy
                  have hq67 := hq65.out
                  have hq68 := hq66.out
                  go_wp2_with fail
                  clear hq67 hq68
                  go_roundw
                  case rel => exact ⟨j + 1, hlj, by go_num, rfl⟩
                  case measure => simp [RowKit.intOf]; omega
                · rw [if_neg hjr, Int.add_zero] at cj
                  have hjB : decide ((j : Int) < r) = false := decide_eq_false hjr
                  have hq66 := hidden (show wrap64 q = q from by unfold wrap64; omega)
                  clear hd hqb
                  have hq68 := hq66.out
                  go_wp2_with fail
                  clear hq68
                  go_roundw
                  case rel => exact ⟨j + 1, hlj, by go_num, rfl⟩
                  case measure => simp [RowKit.intOf]; omega
              · obtain rfl : j = k := by omega
                go_wp2
                go_ret
                exact ⟨rfl, below_drewN hbw7.out⟩
end Go.Proofs.YtddoibnagbbndaaDoor
