import Derived.Test.YtddchfdbkgpndaaDoorStressDo
import Derived.Test.YtddchfdbkgpndaaDoorStressCovMath
import Derived.Test.YtddchfdbkgpndaaDoorLaidOn
import Derived.Deep.DeepCutAuto
namespace Go.Proofs.YtddchfdbkgpndaaDoor
open Go.RowKit
set_option linter.unusedVariables false

abbrev SetS (w0 : World) (b o : Nat) (s m : Int) (W : World) : Prop := (W.cell? ⟨b, o, none⟩ = some (.int .i64 s) ∧ W.cell? ⟨b, o + 1, none⟩ = some (.int .i64 m)) ∧ Below w0.heap.size w0 W
def SetRel (N g : Nat) (w0 : World) (i : Value) (w : World) : Prop :=
  ∃ (k n : Nat) (T : LTab), k ≤ N ∧ n ≤ k ∧ i = .int .i64 (k : Int) ∧ LoAt w w0.heap.size g n T ∧ SmT T ∧ Below w0.heap.size w0 w
def NmRel (z : List Int) (w3 : World) (v u i : Value) (w : World) : Prop :=
  ∃ k : Nat, k ≤ z.length ∧ i = .int .i64 (k : Int) ∧ w.ownsRow w3.heap.size 2 1 v k (((z.take k).map ab3).map (Value.int .i64)) ∧ w.ownsRow w3.heap.size 2 1 u k (((z.take k).map fun y => ab3 y + 5).map (Value.int .i64)) ∧
    (∀ b, v.ownBlock = some b → u.ownBlock ≠ some b) ∧ Below w3.heap.size w3 w
def CvOut (Wt : Prop) (S : Int) (i j : Nat) (w4 : World) (f s : Value) (w : World) : Prop :=
  ∃ (k : Nat) (b : Bool), k ≤ 16 ∧ s = .int .i64 ((k : Int) + 1) ∧ f = .bool b ∧ PendC Wt S i j ((k : Int) + 1) 0 0 b ∧ Below w4.heap.size w4 w
def CvMid (Wt : Prop) (S : Int) (i j N : Nat) (s : Int) (w4 : World) (f a : Value) (w : World) : Prop :=
  ∃ (k : Nat) (b : Bool), k ≤ N ∧ a = .int .i64 (k : Int) ∧ f = .bool b ∧ PendC Wt S i j s k 0 b ∧ Below w4.heap.size w4 w
def CvIn (Wt : Prop) (S : Int) (i j N : Nat) (s : Int) (a : Nat) (w4 : World) (f c : Value) (w : World) : Prop :=
  ∃ (k : Nat) (b : Bool), k ≤ N ∧ c = .int .i64 (k : Int) ∧ f = .bool b ∧ PendC Wt S i j s a k b ∧ Below w4.heap.size w4 w
theorem pend_mid {Wt : Prop} {S s : Int} {i j a N : Nat} {f : Bool} (hj : Wt → i < N ∧ j < N) (h : PendC Wt S i j s a N f) : PendC Wt S i j s (a + 1) 0 f := fun e => by
  obtain ⟨h1, h2⟩ := h e
  have := hj h1
  exact ⟨h1, by omega⟩
theorem pend_out {Wt : Prop} {S s : Int} {i j N : Nat} {f : Bool} (hj : Wt → i < N ∧ j < N) (h : PendC Wt S i j s N 0 f) : PendC Wt S i j (s + 1) 0 0 f := fun e => by
  obtain ⟨h1, h2⟩ := h e
  have := hj h1
  exact ⟨h1, by omega⟩
theorem pend_in {Wt : Prop} {S s X y V : Int} {i j a c : Nat} {f : Bool} (hW : Wt → s = S → a = i → c = j → X + y = V) (h : PendC Wt S i j s a c f) : PendC Wt S i j s a (c + 1) (f || ((X + y == V) && (s == S))) := fun e => by
  simp only [Bool.or_eq_false_iff, Bool.and_eq_false_iff, beq_eq_false_iff_ne] at e
  obtain ⟨e1, e2⟩ := e
  obtain ⟨h1, h2⟩ := h e1
  refine ⟨h1, ?_⟩
  have h3 : ¬ (s = S ∧ a = i ∧ c = j) := fun q => by
    have := hW h1 q.1 q.2.1 q.2.2
    rcases e2 with e2 | e2
    · exact e2 this
    · exact e2 q.1
  omega
theorem abv_ways (T : LTab) (s : Int) (l : List Int) (i : Nat) : (getL T (s, (i : Int) + 1) - l.getD i 0 ≤ 0 ∧ abvAt T s l i = 0) ∨ (¬ getL T (s, (i : Int) + 1) - l.getD i 0 ≤ 0 ∧ abvAt T s l i = getL T (s, (i : Int) + 1) - l.getD i 0) := by
  unfold abvAt
  omega
abbrev NxS (w0 : World) (b o : Nat) (x : Int) (W : World) : Prop := W.cell? ⟨b, o, none⟩ = some (.int .i64 x) ∧ Below w0.heap.size w0 W
theorem pend_end {Wt : Prop} {S : Int} {i j : Nat} {f : Bool} (hS : S ≤ 16) (h : PendC Wt S i j (((16 : Nat) : Int) + 1) 0 0 f) : f = true := by
  cases f with
  | true => rfl
  | false =>
    obtain ⟨_, h2⟩ := h rfl
    omega
set_option maxRecDepth 100000 in
set_option maxHeartbeats 16000000 in
theorem walk_stressCovers (v : Value) (l : List LossD) (u : Value) (z : List Int) (A : Nat → Addr) (w : World) (hr : Row lossV 3 w v l) (hl : ∀ x ∈ l, LossBig x) (hz : Reads .i64 w u z) (hzb : ∀ x ∈ z, -9223372036854775808 ≤ x ∧ x ≤ 9223372036854775807) (hS : SentsOn [2, 3, 4] w A) :
    Calls Tryd.prog 4 #[v, u] w fun e w' => e = .returned (.bool true) ∧ Below w.heap.size w w' := by
  obtain ⟨va, vc, rfl⟩ := row_slice hr
  obtain ⟨za, zc, rfl⟩ := reads_slice hz
  have hE := hidden hS.on
  have hE2 := hidden (hS.on.sub (ks := [2]) (by simp))
  have hF := hidden (law22_first A w hS.on)
  clear hS hzb
  by_cases h40 : (40 : Int) < (l.length : Int)
  · have d1 : decide ((40 : Int) < (l.length : Int)) = true := decide_eq_true h40
    clear hr hl hz hE hE2 h40
    go_enter Tryd.func4, Tryd.ntmps4
    go_wp2_with fail
    refine hF.out.mono ?_
    rintro r w1 ⟨rfl, hb⟩
    replace hb := hidden hb
    go_wp2
    go_ret
    exact ⟨rfl, hb.out⟩
  have d1 : decide ((40 : Int) < (l.length : Int)) = false := decide_eq_false h40
  by_cases h8 : (8 : Int) < (z.length : Int)
  · have d2 : decide ((8 : Int) < (z.length : Int)) = true := decide_eq_true h8
    clear hr hl hz hE hE2 h40 h8
    go_enter Tryd.func4, Tryd.ntmps4
    go_wp2_with fail
    refine hF.out.mono ?_
    rintro r w1 ⟨rfl, hb⟩
    replace hb := hidden hb
    go_wp2
    go_ret
    exact ⟨rfl, hb.out⟩
  have d2 : decide ((8 : Int) < (z.length : Int)) = false := decide_eq_false h8
  have hl40 : l.length ≤ 40 := by omega
  have hz8 : z.length ≤ 8 := by omega
  have hx := hidden (fun k hk W (h2 : Below w.heap.size w W) => rowLo_at (hr.below lossV_len h2 (Nat.le_refl _)) k hk)
  have hzx := hidden (fun k hk W (h2 : Below w.heap.size w W) => (hz.below h2 (Nat.le_refl _)).cell k hk)
  have hbig := hidden (fun k (hk : k < l.length) => hl (l.getD k lossZ) (getLo_mem hk))
  have hCov := hidden (fun W (h2 : Below w.heap.size w W) (B g n : Nat) (T : LTab) hL v l hr => loCover_any A W B g n T hL v l hr (hE.out.below h2 (Nat.le_refl _)))
  clear hr hl hz hE h40 h8
  go_enter Tryd.func4, Tryd.ntmps4
  go_wp2_with fail
  refine hF.out.mono ?_
  rintro r w1 ⟨rfl, hb⟩
  clear hF
  have hn := hidden (lnew22 hb)
  have hg := hidden hb.size
  clear hb
  go_wp2_with fail
  go_loopw [7] (fun i wr => SetRel l.length w1.heap.size w i wr) (fun i _ => l.length - (intOf i).toNat)
  case atStart => exact ⟨0, 0, noL, Nat.zero_le _, Nat.le_refl _, rfl, hn.out.1, noL_sm, hn.out.2⟩
  case round =>
    clear hn
    obtain ⟨k, n, T, hk, hnk, rfl, hL, hsm, hb⟩ := hrel
    by_cases hlt : k < l.length
    · obtain ⟨b, o, rfl, _⟩ := hx.out k hlt _ hb
      have hq := hidden (fun W (h2 : Below w.heap.size w W) => show W.cell? ⟨b, o + k * 3, none⟩ = some (.int .i64 (l.getD k lossZ).s) ∧ W.cell? ⟨b, o + k * 3 + 1, none⟩ = some (.int .i64 (l.getD k lossZ).m) ∧ W.cell? ⟨b, o + k * 3 + 2, none⟩ = some (.int .i64 (l.getD k lossZ).x) by
        obtain ⟨b', o', e, q⟩ := hx.out k hlt _ h2
        simp only [Option.some.injEq, Addr.mk.injEq, and_true] at e
        obtain ⟨rfl, rfl⟩ := e
        exact q)
      have hlI : (k : Int) < (l.length : Int) := by omega
      have hB := hbig.out k hlt
      have hn6 : n < 1000000 := by omega
      have hgw : w1.heap.size < wr.heap.size := hL.lt
      generalize l.getD k lossZ = e at *
      obtain ⟨s, m, x⟩ := e
      unfold LossBig at hB
      obtain ⟨⟨m0, m1⟩, ⟨m2, m3⟩, m4, m5⟩ := hB
      simp only at hq m0 m1 m2 m3 m4 m5
      have nA := hidden (fun W => number_any s 16 W m0 m1 (by decide) (by decide))
      have nB := hidden (fun W => number_any m 8 W m2 m3 (by decide) (by decide))
      have hsI : 0 ≤ s % 16 ∧ s % 16 ≤ 15 := by omega
      have hmI : 0 ≤ m % 8 ∧ m % 8 ≤ 7 := by omega
      have hcel := hidden (show celOk (s % 16 + 1, m % 8 + 1) by unfold celOk; simp only; omega)
      have hzb6 := tmod6_bd x
      have hab := hidden (show ab6 x = if x.tmod 1000000 < 0 then -(x.tmod 1000000) else x.tmod 1000000 from rfl)
      have habb := hidden (ab6_bd x)
      generalize s % 16 = p at *
      generalize m % 8 = q at *
      have hwp : IntKind.i64.wrap (p + 1) = p + 1 := by rw [IntKind.wrap_i64]; omega
      have hwq : IntKind.i64.wrap (q + 1) = q + 1 := by rw [IntKind.wrap_i64]; omega
      have hq' := hidden (fun W (h : Below w.heap.size w W) => show SetS w b (o + k * 3) s m W from ⟨⟨(hq.out W h).1, (hq.out W h).2.1⟩, h⟩)
      have hbr := hidden hb.size
      replace hL := hidden hL
      replace hsm := hidden hsm
      replace hb := hidden hb
      have hs0 := hidden (hq'.out _ hb.out.drew)
      clear hx hzx hbig m0 m1 m2 m3
      go_upto_region 10 with (fail)
      go_cut [8] (fun v wx => ∃ g, v = .pointer (some ⟨g, 0, none⟩) ∧ wx.heap[g]? = some (celO (p + 1, q + 1)) ∧ wr.heap.size ≤ g ∧ Below wr.heap.size wr wx)
      case first =>
        clear hCov hE2 hL hsm hcel hab habb
        go_region_held3 (fun W => (W.cell? ⟨b, o + k * 3, none⟩ = some (.int .i64 s) ∧ W.cell? ⟨b, o + k * 3 + 1, none⟩ = some (.int .i64 m)) ∧ Below w.heap.size w W)
          ((first | exact hs0.out | assumption | exact hq'.out _ (hb.out.alloc hbr.out _).drew))
          ((first
            | (go_at_call 19; (with_reducible refine (nA.out _).mono ?_); rintro e w' ⟨rfl, rfl⟩)
            | (go_at_call 19; (with_reducible refine (nB.out _).mono ?_); rintro e w' ⟨rfl, rfl⟩)))
        all_goals
          go_wp2_with fail
          go_meet
          first | exact ⟨_, rfl, heap_alloc_new wr _, Nat.le_refl _, ((Below.refl wr.heap.size wr).alloc (Nat.le_refl _) _).drew⟩ | exact ⟨_, rfl, heap_alloc_new wr _, Nat.le_refl _, (Below.refl wr.heap.size wr).alloc (Nat.le_refl _) _⟩
      case rest =>
        obtain ⟨gc, rfl, hrow, hgc, hbx⟩ := hcut
        have hL2 := hidden (hL.out.below hbx (Nat.le_refl _))
        have hb2 := hidden (hb.out.trans (hbx.mono hbr.out))
        obtain ⟨_, _, q2⟩ := hq.out _ hb2.out
        have k0 : wc.cell? ⟨gc, 0, none⟩ = some (.int .i64 (p + 1)) := by rw [cell_of_row _ _ _ _ _ _ hrow]; rfl
        have k1 : wc.cell? ⟨gc, 1, none⟩ = some (.int .i64 (q + 1)) := by rw [cell_of_row _ _ _ _ _ _ hrow]; rfl
        have hSet := hidden (fun y => lset22 hb2.out hL2.out hn6 hE2.out (p + 1, q + 1) y)
        have hsm2 := hidden (hsm.out.set (p + 1, q + 1) habb.out.2)
        clear hCov hE2 hq hq' hs0 nA nB hb hL hbr hbx hrow hgc hsm hcel hb2 hL2 hwp hwq hsI hmI habb hgw
        generalize hzv : x.tmod 1000000 = zz at *
        by_cases h0 : zz < 0
        · have e1 : ab6 x = -zz := by rw [hab.out, if_pos h0]
          rw [e1] at hsm2
          clear hab e1
          go_wp2_with fail
          (with_reducible refine (hSet.out (-zz)).mono ?_)
          rintro r w5 ⟨rfl, hL5, hb5, _⟩
          replace hL5 := hidden hL5
          replace hb5 := hidden hb5
          clear hSet k0 k1 q2
          go_wp2
          go_roundw
          case rel => exact ⟨k + 1, n + 1, _, hlt, by omega, by go_num, hL5.out, hsm2.out, hb5.out⟩
          case measure => simp [intOf]; omega
        · have e1 : ab6 x = zz := by rw [hab.out, if_neg h0]
          rw [e1] at hsm2
          clear hab e1
          go_wp2_with fail
          (with_reducible refine (hSet.out zz).mono ?_)
          rintro r w5 ⟨rfl, hL5, hb5, _⟩
          replace hL5 := hidden hL5
          replace hb5 := hidden hb5
          clear hSet k0 k1 q2
          go_wp2
          go_roundw
          case rel => exact ⟨k + 1, n + 1, _, hlt, by omega, by go_num, hL5.out, hsm2.out, hb5.out⟩
          case measure => simp [intOf]; omega
    · obtain rfl : k = l.length := by omega
      obtain ⟨w3, rfl⟩ : ∃ w3, w3 = wr := ⟨_, rfl⟩
      generalize w1.heap.size = g at *
      replace hL := hidden hL
      replace hsm := hidden hsm
      replace hb := hidden hb
      clear hx hbig hE2 hlt hk hg
      go_wp2_with fail
      go_loopw [10, 11, 12] (fun v u i wr => NmRel z w3 v u i wr) (fun _ _ i _ => z.length - (intOf i).toNat)
      case atStart => exact ⟨0, Nat.zero_le _, rfl, World.ownsRow_nil _ _ _ _, World.ownsRow_nil _ _ _ _, (fun b h => by cases h), Below.refl _ _⟩
      case round =>
        obtain ⟨k, hk, rfl, hv, hu, hne, hbx⟩ := hrel
        by_cases hlt : k < z.length
        · obtain ⟨b, o, rfl, q0⟩ := hzx.out k hlt wr (hb.out.trans (hbx.mono hb.out.size))
          have hzI : (k : Int) < (z.length : Int) := by omega
          have hk8 : k ≤ 1099511627776 := by omega
          have tk1 := hidden (take_map22 ab3 z k hlt)
          have tk2 := hidden (take_map22 (fun y => ab3 y + 5) z k hlt)
          have hzb3 := tmod3_bd (z.getD k 0)
          have hab := hidden (show ab3 (z.getD k 0) = if (z.getD k 0).tmod 1000 < 0 then -((z.getD k 0).tmod 1000) else (z.getD k 0).tmod 1000 from rfl)
          generalize z.getD k 0 = x at *
          generalize hzv : x.tmod 1000 = zz at *
          generalize (z.take k).map ab3 = L1 at *
          generalize (z.take k).map (fun y => ab3 y + 5) = L2 at *
          have hult := hidden (fun b e => (World.ownsRow.lt hu b e).2)
          replace hne := hidden hne
          replace hv := hidden hv
          replace hu := hidden hu
          have hbs := hidden hbx.size
          replace hbx := hidden hbx
          clear hCov hsm hL hzx
          by_cases h0 : zz < 0
          · have e1 : ab3 x = -zz := by rw [hab.out, if_pos h0]
            rw [e1] at tk1 tk2
            clear hab e1
            go_wp2_with (at_builtin; refine wpList_app1T rfl _ _ 23 rfl 2 Tryd.underlying23 infoI22 rfl (by decide) w3.heap.size _ k (L1.map (Value.int .i64)) rfl hv.out (.int .i64 (-zz)) _ rfl (by simp) rfl hk8 hbs.out ?_)
            intro v2 w4 hv2 hb4 ht4 hb4'
            have hu2 := hidden (own_trd22 hu.out ht4 (fun b e1 e2 => hne.out b e2 e1))
            have hne2 := hidden (show ∀ b, v2.ownBlock = some b → u11.ownBlock ≠ some b from fun b e1 e2 => by
              rcases hb4' with e | ⟨b', e, e3⟩
              · rw [e] at e1; exact hne.out b e1 e2
              · rw [e] at e1
                obtain rfl := Option.some.inj e1
                have := hult.out _ e2
                omega)
            have hvlt := hidden (fun b e => (World.ownsRow.lt hv2 b e).2)
            replace hv2 := hidden hv2
            have hbx2 := hidden (hbx.out.trans hb4)
            have hbs2 := hidden (hbx.out.trans hb4).size
            clear hv hu hne hb4 ht4 hb4' hbx hbs hult
            go_wp2_with (at_builtin; refine wpList_app1T rfl _ _ 23 rfl 2 Tryd.underlying23 infoI22 rfl (by decide) w3.heap.size _ k (L2.map (Value.int .i64)) rfl hu2.out (.int .i64 (-zz + 5)) _ rfl (by simp) rfl hk8 hbs2.out ?_)
            intro u2 w5 hu3 hb5 ht5 hb5'
            have hv3 := hidden (own_trd22 hv2.out ht5 (fun b e1 e2 => hne2.out b e1 e2))
            have hne3 := hidden (show ∀ b, v2.ownBlock = some b → u2.ownBlock ≠ some b from fun b e1 e2 => by
              rcases hb5' with e | ⟨b', e, e3⟩
              · rw [e] at e2; exact hne2.out b e1 e2
              · rw [e] at e2
                obtain rfl := Option.some.inj e2
                have := hvlt.out _ e1
                omega)
            replace hu3 := hidden hu3
            have hbx3 := hidden (hbx2.out.trans hb5)
            clear hv2 hu2 hne2 hb5 ht5 hb5' hbx2 hbs2 hvlt
            go_wp2
            go_roundw
            case rel => exact ⟨k + 1, hlt, by go_num, by rw [tk1.out, map_snoc22]; exact hv3.out, by rw [tk2.out, map_snoc22]; exact hu3.out, hne3.out, hbx3.out⟩
            case measure => simp [intOf]; omega
          · have e1 : ab3 x = zz := by rw [hab.out, if_neg h0]
            rw [e1] at tk1 tk2
            clear hab e1
            go_wp2_with (at_builtin; refine wpList_app1T rfl _ _ 23 rfl 2 Tryd.underlying23 infoI22 rfl (by decide) w3.heap.size _ k (L1.map (Value.int .i64)) rfl hv.out (.int .i64 zz) _ rfl (by simp) rfl hk8 hbs.out ?_)
            intro v2 w4 hv2 hb4 ht4 hb4'
            have hu2 := hidden (own_trd22 hu.out ht4 (fun b e1 e2 => hne.out b e2 e1))
            have hne2 := hidden (show ∀ b, v2.ownBlock = some b → u11.ownBlock ≠ some b from fun b e1 e2 => by
              rcases hb4' with e | ⟨b', e, e3⟩
              · rw [e] at e1; exact hne.out b e1 e2
              · rw [e] at e1
                obtain rfl := Option.some.inj e1
                have := hult.out _ e2
                omega)
            have hvlt := hidden (fun b e => (World.ownsRow.lt hv2 b e).2)
            replace hv2 := hidden hv2
            have hbx2 := hidden (hbx.out.trans hb4)
            have hbs2 := hidden (hbx.out.trans hb4).size
            clear hv hu hne hb4 ht4 hb4' hbx hbs hult
            go_wp2_with (at_builtin; refine wpList_app1T rfl _ _ 23 rfl 2 Tryd.underlying23 infoI22 rfl (by decide) w3.heap.size _ k (L2.map (Value.int .i64)) rfl hu2.out (.int .i64 (zz + 5)) _ rfl (by simp) rfl hk8 hbs2.out ?_)
            intro u2 w5 hu3 hb5 ht5 hb5'
            have hv3 := hidden (own_trd22 hv2.out ht5 (fun b e1 e2 => hne2.out b e1 e2))
            have hne3 := hidden (show ∀ b, v2.ownBlock = some b → u2.ownBlock ≠ some b from fun b e1 e2 => by
              rcases hb5' with e | ⟨b', e, e3⟩
              · rw [e] at e2; exact hne2.out b e1 e2
              · rw [e] at e2
                obtain rfl := Option.some.inj e2
                have := hvlt.out _ e1
                omega)
            replace hu3 := hidden hu3
            have hbx3 := hidden (hbx2.out.trans hb5)
            clear hv2 hu2 hne2 hb5 ht5 hb5' hbx2 hbs2 hvlt
            go_wp2
            go_roundw
            case rel => exact ⟨k + 1, hlt, by go_num, by rw [tk1.out, map_snoc22]; exact hv3.out, by rw [tk2.out, map_snoc22]; exact hu3.out, hne3.out, hbx3.out⟩
            case measure => simp [intOf]; omega
        · obtain rfl : k = z.length := by omega
          rw [List.take_length] at hv hu
          have hrv := reads_of_own hv
          have hru := reads_of_own hu
          have hlo := hL.out.lo
          have hbw := hb.out.trans (hbx.mono hb.out.size)
          have hLw := hL.out.below hbx (Nat.le_refl _)
          have hA3 := ab3_am z
          obtain ⟨e1, e2, e3, _, e5, e6⟩ := cov_small hlo hsm.out hA3 (by rw [List.length_map]; omega)
          have e7 := (cov_small hlo hsm.out (ab5_am z) (by rw [List.length_map]; omega)).1
          have e8 := cov_less hlo hsm.out (z := z) (by omega)
          have hmost := hidden (fun s hc a b ha hb => @cov_most T hlo hsm.out (z.map ab3) hA3 (by rw [List.length_map]; omega) s hc a b ha hb)
          obtain ⟨wi, wj, hwit⟩ := cov_some hlo hsm.out hA3 (by rw [List.length_map]; omega)
          have hnl : (z.map ab3).length = z.length := List.length_map _
          have hnb := hidden hA3
          have hC1 := hidden (hCov.out wr hbw _ _ _ _ hLw _ _ hrv)
          have hC2 := hidden (fun W (h : Below wr.heap.size wr W) => hCov.out W (hbw.trans (h.mono hbw.size)) _ _ _ _ (hLw.below h (Nat.le_refl _)) _ _ (hru.below h (Nat.le_refl _)))
          rw [e1, errOf_fine] at hC1
          rw [e7, errOf_fine] at hC2
          obtain ⟨na, nc, rfl⟩ := reads_slice hrv
          obtain ⟨ma, mc, rfl⟩ := reads_slice hru
          replace hLw := hidden hLw
          replace hrv := hidden hrv
          replace hbw := hidden hbw
          replace hlo := hidden hlo
          obtain ⟨w6, rfl⟩ : ∃ w6, w6 = wr := ⟨_, rfl⟩
          clear hv hu hne hbx hru hb hL hCov hzx hA3 hlt hk hsm
          generalize hgv : (covR T (z.map ab3)).v = V at *
          generalize hgs : (covR T (z.map ab3)).s = S at *
          generalize (covR T (z.map fun y => ab3 y + 5)).v = V2 at *
          generalize (covR T (z.map fun y => ab3 y + 5)).s = S2 at *
          have hml : (z.map fun y => ab3 y + 5).length = z.length := List.length_map _
          generalize z.map (fun y => ab3 y + 5) = ML at *
          generalize z.map ab3 = NL at *
          clear hgv hgs
          obtain ⟨hS1, hS2⟩ := e2
          clear e1 e7 e3
          rw [hnl, hml]
          rw [hnl] at hC1 hwit
          rw [hml] at hC2
          go_wp2_with fail
          (with_reducible refine hC1.out.mono ?_)
          rintro r w7 ⟨rfl, hb7⟩
          have hC2' := hidden (hC2.out _ hb7)
          replace hb7 := hidden hb7
          clear hC1 hC2
          go_wp2_with fail
          (with_reducible refine hC2'.out.mono ?_)
          rintro r w8 ⟨rfl, hb8⟩
          have hb9 := hidden (hb7.out.trans (hb8.mono hb7.out.size))
          have hGet := hidden (fun W (h : Below w8.heap.size w8 W) s hs => loGet_any W _ _ _ _ (hLw.out.below (hb9.out.trans (h.mono hb9.out.size)) (by exact Nat.le_refl _)) s hs)
          have hnx := hidden (fun i (hi : i < z.length) W (h : Below w8.heap.size w8 W) => ((hrv.out.below (hb9.out.trans (h.mono hb9.out.size)) (Nat.le_refl _)).cell i (by rw [hnl]; exact hi)))
          have hbw8 := hidden (hbw.out.trans (hb9.out.mono hbw.out.size))
          clear hC2' hb7 hb8 hb9 hLw hrv hbw
          obtain ⟨Wt, hWt⟩ : ∃ W : Prop, W = (wi < z.length ∧ wj < z.length ∧ abvAt T S NL wi + secA T S NL wi wj = V) := ⟨_, rfl⟩
          rw [← hWt] at hwit
          have hW1 := hidden (show Wt → wi < z.length ∧ wj < z.length from fun h => by rw [hWt] at h; exact ⟨h.1, h.2.1⟩)
          have hW2 := hidden (show Wt → abvAt T S NL wi + secA T S NL wi wj = V from fun h => by rw [hWt] at h; exact h.2.2)
          have hp0 := hidden (show PendC Wt S wi wj (((0 : Nat) : Int) + 1) 0 0 (V == 0) from fun e => by
            rw [beq_eq_false_iff_ne] at e
            exact ⟨hwit.resolve_left e, by omega⟩)
          have hSS := hidden (And.intro hS1 hS2)
          have hVV := hidden (And.intro e5 e6)
          replace hWt := hidden hWt
          clear hwit
          go_wp2_with fail
          go_loopw [20, 21] (fun f s wr => CvOut Wt S wi wj w8 f s wr) (fun _ s _ => 17 - (intOf s).toNat)
          case atStart => exact ⟨0, (V == 0), by omega, rfl, rfl, hp0.out, Below.refl _ _⟩
          case round =>
            clear hp0 e8 e5 e6 hS1 hS2
            obtain ⟨k, f, hk, rfl, rfl, hp, hb⟩ := hrel
            by_cases hlt : k < 16
            · have hkI : (k : Int) + 1 ≤ 16 := by omega
              replace hp := hidden hp
              replace hb := hidden hb
              go_wp2_with fail
              go_loopw [20, 22] (fun f a wr => CvMid Wt S wi wj z.length ((k : Int) + 1) w8 f a wr) (fun _ a _ => z.length - (intOf a).toNat)
              case atStart => exact ⟨0, f, Nat.zero_le _, rfl, rfl, hp.out, hb.out⟩
              case round =>
                clear hp hb
                obtain ⟨a, f, ha, rfl, rfl, hp, hb⟩ := hrel
                by_cases halt : a < z.length
                · obtain ⟨bn, on, rfl, _⟩ := hnx.out a halt wr hb
                  have haI : (a : Int) < (z.length : Int) := by omega
                  have hqn := hidden (fun i (hi : i < z.length) W (h : Below w8.heap.size w8 W) => show W.cell? ⟨bn, on + i, none⟩ = some (.int .i64 (NL.getD i 0)) by
                    obtain ⟨b', o', e, q⟩ := hnx.out i hi W h
                    simp only [Option.some.injEq, Addr.mk.injEq, and_true] at e
                    obtain ⟨rfl, rfl⟩ := e
                    exact q)
                  replace hp := hidden hp
                  replace hb := hidden hb
                  go_upto_region 35 with (fail)
                  go_cut [23] (fun x wx => x = .int .i64 (abvAt T ((k : Int) + 1) NL a) ∧ Below w8.heap.size w8 wx)
                  case first =>
                    as_aux_lemma =>
                      have hw := abv_ways T ((k : Int) + 1) NL a
                      have hgb := hlo.out.get ((k : Int) + 1, (a : Int) + 1)
                      have hnn := hnb.out _ (getI22_mem (show a < NL.length by omega))
                      unfold amOk at hnn
                      have hG1 := hidden (fun W (h : Below w8.heap.size w8 W) => hGet.out W h ((k : Int) + 1, (a : Int) + 1) (by unfold celIn; simp only; omega))
                      have hs0 := hidden (show NxS w8 bn (on + a) (NL.getD a 0) wr.drew from ⟨hqn.out a (by omega) _ hb.out.drew, hb.out.drew⟩)
                      have hnS := hidden (fun W (h : Below w8.heap.size w8 W) => show NxS w8 bn (on + a) (NL.getD a 0) W from ⟨hqn.out a (by omega) W h, h⟩)
                      have hwa : IntKind.i64.wrap ((a : Int) + 1) = (a : Int) + 1 := by rw [IntKind.wrap_i64]; omega
                      generalize abvAt T ((k : Int) + 1) NL a = X at *
                      generalize getL T ((k : Int) + 1, (a : Int) + 1) = y at *
                      generalize NL.getD a 0 = n at *
                      have hwd : IntKind.i64.wrap (y - n) = y - n := by rw [IntKind.wrap_i64]; omega
                      clear hp hmost hlo hnb hGet hqn
                      try clear hm
                      rcases hw with ⟨h0, rfl⟩ | ⟨h0, rfl⟩
                      all_goals
                        (go_region_held3 (fun W => W.cell? ⟨bn, on + a, none⟩ = some (.int .i64 n) ∧ Below w8.heap.size w8 W)
                          ((first | exact hs0.out | assumption | exact hnS.out _ (Below.trans (And.right (by assumption)) (hb5.mono (Below.size (And.right (by assumption)))))))
                          ((first
                            | (go_at_call 17; (with_reducible refine (hG1.out _ (And.right (by assumption))).mono ?_); rintro e w' ⟨rfl, hb5⟩))))
                        all_goals
                          rename_i hh
                          have hend := hidden hh.2
                          go_wp2_with fail
                          go_meet
                          exact ⟨rfl, hend.out⟩
                  case rest =>
                    obtain ⟨rfl, hb2⟩ := hcut
                    replace hb := hidden hb2
                    clear hb2
                    generalize hX : abvAt T ((k : Int) + 1) NL a = X at *
                    replace hX := hidden hX
                    go_wp2_with fail
                    go_loopw [20, 24] (fun f c wr => CvIn Wt S wi wj z.length ((k : Int) + 1) a w8 f c wr) (fun _ c _ => z.length - (intOf c).toNat)
                    case atStart => exact ⟨0, f, Nat.zero_le _, rfl, rfl, hp.out, hb.out⟩
                    case round =>
                      clear hp hb
                      obtain ⟨c, f, hc, rfl, rfl, hp, hb⟩ := hrel
                      by_cases hclt : c < z.length
                      · have hcI : (c : Int) < (z.length : Int) := by omega
                        replace hp := hidden hp
                        replace hb := hidden hb
                        go_upto_region 39 with (fail)
                        go_cut [25] (fun x wx => x = .int .i64 (abvAt T ((k : Int) + 1) NL c) ∧ Below w8.heap.size w8 wx)
                        case first =>
                          as_aux_lemma =>
                            have hw := abv_ways T ((k : Int) + 1) NL c
                            have hgb := hlo.out.get ((k : Int) + 1, (c : Int) + 1)
                            have hnn := hnb.out _ (getI22_mem (show c < NL.length by omega))
                            unfold amOk at hnn
                            have hG1 := hidden (fun W (h : Below w8.heap.size w8 W) => hGet.out W h ((k : Int) + 1, (c : Int) + 1) (by unfold celIn; simp only; omega))
                            have hs0 := hidden (show NxS w8 bn (on + c) (NL.getD c 0) wr.drew from ⟨hqn.out c (by omega) _ hb.out.drew, hb.out.drew⟩)
                            have hnS := hidden (fun W (h : Below w8.heap.size w8 W) => show NxS w8 bn (on + c) (NL.getD c 0) W from ⟨hqn.out c (by omega) W h, h⟩)
                            have hwa : IntKind.i64.wrap ((c : Int) + 1) = (c : Int) + 1 := by rw [IntKind.wrap_i64]; omega
                            generalize abvAt T ((k : Int) + 1) NL c = Y at *
                            generalize getL T ((k : Int) + 1, (c : Int) + 1) = y at *
                            generalize NL.getD c 0 = n at *
                            have hwd : IntKind.i64.wrap (y - n) = y - n := by rw [IntKind.wrap_i64]; omega
                            clear hp hmost hlo hnb hGet hqn
                            try clear hm
                            rcases hw with ⟨h0, rfl⟩ | ⟨h0, rfl⟩
                            all_goals
                              (go_region_held3 (fun W => W.cell? ⟨bn, on + c, none⟩ = some (.int .i64 n) ∧ Below w8.heap.size w8 W)
                                ((first | exact hs0.out | assumption | exact hnS.out _ (Below.trans (And.right (by assumption)) (hb5.mono (Below.size (And.right (by assumption)))))))
                                ((first
                                  | (go_at_call 17; (with_reducible refine (hG1.out _ (And.right (by assumption))).mono ?_); rintro e w' ⟨rfl, hb5⟩))))
                              all_goals
                                rename_i hh
                                have hend := hidden hh.2
                                go_wp2_with fail
                                go_meet
                                exact ⟨rfl, hend.out⟩
                        case rest =>
                          obtain ⟨rfl, hb2⟩ := hcut
                          replace hb := hidden hb2
                          clear hb2
                          obtain ⟨m1, m2, m3, m4⟩ := hmost.out ((k : Int) + 1) (by unfold scOk; omega) a c (by omega) (by omega)
                          rw [hX.out] at m1 m3
                          have hnew := hidden (pend_in (X := X) (y := secA T ((k : Int) + 1) NL a c) (V := V) (fun h e1 e2 e3 => by rw [← hX.out, e1, e2, e3]; exact hW2.out h) hp.out)
                          clear hp hmost hW1 hW2 hWt hlo hnb hGet hqn hnx hVV
                          by_cases hca : c = a
                          · have hs : secA T ((k : Int) + 1) NL a c = 0 := if_pos hca
                            have hcB : ((c : Int) == (a : Int)) = true := by rw [beq_iff_eq]; omega
                            rw [hs, Int.add_zero] at hnew m3
                            clear hs m2 hca
                            generalize abvAt T ((k : Int) + 1) NL c = Y at *
                            have hwX : IntKind.i64.wrap X = X := by rw [IntKind.wrap_i64]; omega
                            have hdX : decide (V < X) = false := decide_eq_false (by omega)
                            clear m1 m3 m4
                            generalize he : (X == V) = eb at *
                            generalize ht : ((k : Int) + 1 == S) = tb at *
                            cases f with
                            | true =>
                              go_wp2
                              go_roundw
                              case rel => exact ⟨c + 1, _, hclt, by go_num, rfl, hnew.out, hb.out⟩
                              case measure => simp [intOf]; omega
                            | false =>
                              cases eb with
                              | false =>
                                go_wp2
                                go_roundw
                                case rel => exact ⟨c + 1, _, hclt, by go_num, rfl, hnew.out, hb.out⟩
                                case measure => simp [intOf]; omega
                              | true =>
                                go_wp2
                                go_roundw
                                case rel => exact ⟨c + 1, _, hclt, by go_num, rfl, hnew.out, hb.out⟩
                                case measure => simp [intOf]; omega
                          · have hs : secA T ((k : Int) + 1) NL a c = abvAt T ((k : Int) + 1) NL c := if_neg hca
                            have hcB : ((c : Int) == (a : Int)) = false := by rw [beq_eq_false_iff_ne]; omega
                            rw [hs] at hnew m3 m2
                            clear hs hca
                            generalize abvAt T ((k : Int) + 1) NL c = Y at *
                            have hwX : IntKind.i64.wrap (X + Y) = X + Y := by rw [IntKind.wrap_i64]; omega
                            have hdX : decide (V < X + Y) = false := decide_eq_false (by omega)
                            clear m1 m2 m3 m4
                            generalize he : (X + Y == V) = eb at *
                            generalize ht : ((k : Int) + 1 == S) = tb at *
                            cases f with
                            | true =>
                              go_wp2
                              go_roundw
                              case rel => exact ⟨c + 1, _, hclt, by go_num, rfl, hnew.out, hb.out⟩
                              case measure => simp [intOf]; omega
                            | false =>
                              cases eb with
                              | false =>
                                go_wp2
                                go_roundw
                                case rel => exact ⟨c + 1, _, hclt, by go_num, rfl, hnew.out, hb.out⟩
                                case measure => simp [intOf]; omega
                              | true =>
                                go_wp2
                                go_roundw
                                case rel => exact ⟨c + 1, _, hclt, by go_num, rfl, hnew.out, hb.out⟩
                                case measure => simp [intOf]; omega
                      · obtain rfl : c = z.length := by omega
                        have hp2 := hidden (pend_mid hW1.out hp)
                        replace hb := hidden hb
                        clear hp hmost hW1 hW2 hWt hlo hnb hGet hqn hnx hVV
                        go_wp2
                        go_roundw
                        case rel => exact ⟨a + 1, f, halt, by go_num, rfl, hp2.out, hb.out⟩
                        case measure => simp [intOf]; omega
                · obtain rfl : a = z.length := by omega
                  have hp2 := hidden (show PendC Wt S wi wj (((k + 1 : Nat) : Int) + 1) 0 0 f by
                    have h := pend_out hW1.out hp
                    rwa [show (k : Int) + 1 + 1 = ((k + 1 : Nat) : Int) + 1 by omega] at h)
                  replace hb := hidden hb
                  clear hp hmost hW1 hW2 hWt hlo hnb hGet hnx hVV
                  go_wp2
                  go_roundw
                  case rel => exact ⟨k + 1, f, by omega, by go_num, rfl, hp2.out, hb.out⟩
                  case measure => simp [intOf]; omega
            · obtain rfl : k = 16 := by omega
              obtain rfl := pend_end hSS.out.2 hp
              have hend := hidden (hbw8.out.trans (hb.mono hbw8.out.size))
              clear hp hmost hW1 hW2 hWt hlo hnb hGet hnx hVV hb
              go_wp2
              go_ret
              exact ⟨rfl, hend.out⟩
end Go.Proofs.YtddchfdbkgpndaaDoor
