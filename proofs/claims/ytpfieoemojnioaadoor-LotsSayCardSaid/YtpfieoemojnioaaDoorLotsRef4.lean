/-
  The document's own: dearer, Order.
-/
import Derived.Test.YtpfieoemojnioaaDoorLotsRef3
import Derived.Test.YtpfieoemojnioaaDoorLots7
import Derived.Test.YtpfieoemojnioaaDoorRefCmp
import Derived.Deep.CutBlock
import Derived.Deep.DeepCutAuto
namespace Go.Proofs.YtpfieoemojnioaaDoor
open Go.RowKit
set_option linter.unusedVariables false

theorem cmpv_pos (x y : Int) : 0 < cmpv x y ↔ y < x := by
  unfold cmpv
  split
  · omega
  · split <;> omega
set_option maxHeartbeats 1600000 in
theorem r18Dear_any (a b : Lt) (w : World) (ha : ltBig a) (hb : ltBig b) :
    Calls Tryd.prog 48 #[ltA a, ltA b] w fun e w' => e = .returned (.bool (dear a b)) ∧ Below w.heap.size w w' := by
  have hb0 := hidden ((below_lt w a).trans ((below_lt (w.alloc (ltO a)) b).mono (by simp)) : Below w.heap.size w ((w.alloc (ltO a)).alloc (ltO b)))
  unfold ltBig at ha hb
  have hC := hidden (fun W => refCmp_any a.c b.v b.c a.v W (by omega) (by omega) (by omega) (by omega) (by omega) (by omega) (by omega) (by omega))
  have hpos := hidden (cmpv_pos (a.c * b.v) (b.c * a.v))
  generalize cmpv (a.c * b.v) (b.c * a.v) = q at *
  by_cases h1 : a.v = 0
  · by_cases h2 : b.v = 0
    · have hd := hidden (show dear a b = false by unfold dear; rw [if_pos (.inl h1), decide_eq_false_iff_not]; exact fun z => z.2 h2)
      obtain ⟨au, av, ac, ag⟩ := a
      obtain ⟨bu, bv, bc, bg⟩ := b
      simp only at h1 h2
      subst h1
      subst h2
      clear hC
      go_enter Tryd.func48, Tryd.ntmps48
      go_wp2
      go_ret
      exact ⟨ret_bool hd.out.symm, hb0.out⟩
    · have hd := hidden (show dear a b = true by unfold dear; rw [if_pos (.inl h1), decide_eq_true_iff]; exact ⟨h1, h2⟩)
      have n2 : (b.v != 0) = true := by rw [bne_iff_ne]; exact h2
      obtain ⟨au, av, ac, ag⟩ := a
      obtain ⟨bu, bv, bc, bg⟩ := b
      simp only at h1 n2
      subst h1
      clear hC h2
      go_enter Tryd.func48, Tryd.ntmps48
      go_wp2
      go_ret
      exact ⟨ret_bool hd.out.symm, hb0.out⟩
  · have n1 : (a.v == 0) = false := by rw [beq_eq_false_iff_ne]; exact h1
    by_cases h2 : b.v = 0
    · have hd := hidden (show dear a b = false by unfold dear; rw [if_pos (.inr h2), decide_eq_false_iff_not]; exact fun z => h1 z.1)
      obtain ⟨au, av, ac, ag⟩ := a
      obtain ⟨bu, bv, bc, bg⟩ := b
      simp only at n1 h2
      subst h2
      clear hC h1
      go_enter Tryd.func48, Tryd.ntmps48
      go_wp2
      go_ret
      exact ⟨ret_bool hd.out.symm, hb0.out⟩
    · have hd := hidden (show dear a b = decide (0 < q) by
        unfold dear
        rw [if_neg (by intro z; rcases z with z | z; exact h1 z; exact h2 z), Bool.eq_iff_iff, decide_eq_true_iff, decide_eq_true_iff]
        exact hpos.out.symm)
      have n2 : (b.v == 0) = false := by rw [beq_eq_false_iff_ne]; exact h2
      obtain ⟨au, av, ac, ag⟩ := a
      obtain ⟨bu, bv, bc, bg⟩ := b
      simp only at n1 n2 hC
      clear h1 h2 hpos
      go_enter Tryd.func48, Tryd.ntmps48
      go_wp2_with (go_at_call 55; (with_reducible refine (hC.out _).mono ?_); rintro e w' ⟨rfl, rfl⟩)
      go_ret
      exact ⟨ret_bool hd.out.symm, hb0.out⟩
/-- 'l[k:]' of numbers. -/
theorem reads_from18 {k : IntKind} {w : World} {a : Option Addr} {n c m : Nat} {xs : List Int} (h : Reads k w (.slice a n c) xs) (hm : m ≤ n) :
    (c = m → Reads k w (.slice a (n - m) (c - m)) (xs.drop m)) ∧ (∀ b o, a = some ⟨b, o, none⟩ → Reads k w (.slice (some ⟨b, o + m, none⟩) (n - m) (c - m)) (xs.drop m)) := by
  obtain ⟨a', len, cap, e, h1, h2, h3, h4, h5⟩ := h
  simp only [Value.slice.injEq] at e
  obtain ⟨rfl, rfl, rfl⟩ := e
  refine ⟨fun hc => ⟨a, n - m, c - m, rfl, by simp; omega, by omega, by omega, fun _ => by omega, fun ad had i hi => by omega⟩, fun b o ha => ⟨_, n - m, c - m, rfl, by simp; omega, by omega, by omega, (fun z => by cases z), fun ad had i hi => ?_⟩⟩
  obtain rfl := Option.some.inj had
  obtain ⟨_, h7⟩ := h5 _ ha (m + i) (by omega)
  refine ⟨rfl, ?_⟩
  simp only at h7 ⊢
  rw [Nat.add_assoc, h7]
  simp [List.getD_eq_getElem?_getD, List.getElem?_drop]
theorem nats_take (l : List Nat) (k : Nat) : (nats l).take k = nats (l.take k) := by unfold nats; rw [List.map_take]
theorem nats_drop (l : List Nat) (k : Nat) : (nats l).drop k = nats (l.drop k) := by unfold nats; rw [List.map_drop]
theorem ins_row (L : List Lt) (k j : Nat) (h : insAt L (ordTo L k) k k = j) : ivs ((nats (ordTo L k)).take j) ++ Value.int .i64 (k : Int) :: ((nats (ordTo L k)).drop j).map (Value.int .i64) = ivs (nats (ordTo L (k + 1))) := by
  show _ = ivs (nats (ins L (ordTo L k) k))
  unfold ins
  rw [ordTo_len, h, nats_take, nats_drop]
  simp [ivs, nats]
theorem own_shape18 {w : World} {base : Nat} {e : TypeId} {v : Value} {n : Nat} {xs : List Value} (h : w.ownsRow base e 1 v n xs) : ∃ a c, v = .slice a n c ∧ ((a = none ∧ n = 0 ∧ c = 0) ∨ ∃ g, a = some ⟨g, 0, none⟩) := by
  rcases h.2 with ⟨rfl, rfl⟩ | ⟨g, cap, cur, rfl, _⟩
  · exact ⟨_, _, rfl, .inl ⟨rfl, rfl, rfl⟩⟩
  · exact ⟨_, _, rfl, .inr ⟨g, rfl⟩⟩
theorem own_len18 {w : World} {base : Nat} {e : TypeId} {v : Value} {n m : Nat} {xs ys : List Value} (h : w.ownsRow base e 1 v n xs) (hn : n = m) (hx : xs = ys) : w.ownsRow base e 1 v m ys := by
  subst hn
  subst hx
  exact h
def OrRel18 (L : List Lt) (w0 : World) (v i : Value) (w : World) : Prop := ∃ k : Nat, k ≤ L.length ∧ i = .int .i64 (k : Int) ∧ w.ownsRow w0.heap.size 3 1 v k (ivs (nats (ordTo L k))) ∧ Below w0.heap.size w0 w
def OiRel18 (L : List Lt) (k : Nat) (w0 : World) (i : Value) (w : World) : Prop := ∃ j : Nat, j ≤ k ∧ i = .int .i64 (j : Int) ∧ insAt L (ordTo L k) k k = insAt L (ordTo L k) k j ∧ Below w0.heap.size w0 w
abbrev OrS (w0 : World) (b o q p r : Nat) (x : Int) (y z : Lt) (W : World) : Prop :=
  W.cell? ⟨b, o, none⟩ = some (.int .i64 x) ∧ (W.cell? ⟨q, p, none⟩ = some (.int .i64 y.u) ∧ W.cell? ⟨q, p + 1, none⟩ = some (.int .i64 y.v) ∧ W.cell? ⟨q, p + 2, none⟩ = some (.int .i64 y.c) ∧ W.cell? ⟨q, p + 3, none⟩ = some (.int .i64 y.g)) ∧
    (W.cell? ⟨q, r, none⟩ = some (.int .i64 z.u) ∧ W.cell? ⟨q, r + 1, none⟩ = some (.int .i64 z.v) ∧ W.cell? ⟨q, r + 2, none⟩ = some (.int .i64 z.c) ∧ W.cell? ⟨q, r + 3, none⟩ = some (.int .i64 z.g)) ∧ Below w0.heap.size w0 W
theorem orS_drew {w0 W : World} {b o q p r : Nat} {x : Int} {y z : Lt} (h : OrS w0 b o q p r x y z W) : OrS w0 b o q p r x y z W.drew := ⟨h.1, h.2.1, h.2.2.1, h.2.2.2.drew⟩
theorem orS_next {w0 W W' : World} {b o q p r : Nat} {x : Int} {y z : Lt} (h : OrS w0 b o q p r x y z W) (hb : Below W.heap.size W W') : OrS w0 b o q p r x y z W' := by
  refine ⟨?_, lotAt_below h.2.1 hb, lotAt_below h.2.2.1 hb, h.2.2.2.trans (hb.mono h.2.2.2.size)⟩
  rw [World.cell?_of_block (w := W) (hb.block _ (World.block_lt_of_cell? W _ h.1))]; exact h.1
set_option maxRecDepth 100000 in
set_option maxHeartbeats 12800000 in
theorem r18Order_any (lv : Value) (L : List Lt) (w : World) (hr : Row ltV 4 w lv L) (hbig : ∀ x ∈ L, ltBig x) (h8 : L.length ≤ 8) :
    Calls Tryd.prog 40 #[lv] w fun e w' => ∃ v, e = .returned v ∧ w'.ownsRow w.heap.size 3 1 v L.length (ivs (nats (ordL L))) ∧ Below w.heap.size w w' := by
  obtain ⟨la, lc, rfl⟩ := row_slice hr
  have hx := hidden (fun k hk W (h2 : Below w.heap.size w W) => rowLt_at (hr.below ltV_len h2 (Nat.le_refl _)) k hk)
  have hD := hidden (fun i j W (hi : i < L.length) (hj : j < L.length) => r18Dear_any (L.getD i ltZ) (L.getD j ltZ) W (by rw [List.getD_eq_getElem?_getD, List.getElem?_eq_getElem hi]; exact hbig _ (List.getElem_mem hi)) (by rw [List.getD_eq_getElem?_getD, List.getElem?_eq_getElem hj]; exact hbig _ (List.getElem_mem hj)))
  have h8I : (L.length : Int) ≤ 8 := by omega
  clear hr hbig
  go_enter Tryd.func40, Tryd.ntmps40
  go_wp2_with fail
  go_loopw [3, 4] (fun v i wr => OrRel18 L w v i wr) (fun _ i _ => L.length - (RowKit.intOf i).toNat)
  case atStart => exact ⟨0, Nat.zero_le _, rfl, World.ownsRow_nil _ _ _ _, Below.refl _ _⟩
  case round =>
    obtain ⟨k, hk, rfl, hown, hb⟩ := hrel
    obtain ⟨wz, rfl⟩ : ∃ w3, w3 = wr := ⟨_, rfl⟩
    by_cases hlt : k < L.length
    · have hlI : (k : Int) < (L.length : Int) := by omega
      obtain ⟨av, cv, rfl, hsh⟩ := own_shape18 hown
      replace hsh := hidden hsh
      have hro := hidden (fun W (h2 : Below wz.heap.size wz W) => (reads_of_own (xs := nats (ordTo L k)) hown).below h2 (Nat.le_refl _))
      have hcap := hidden (reads_cap (reads_of_own (xs := nats (ordTo L k)) hown))
      have hbW := hidden (fun W (h2 : Below wz.heap.size wz W) => hb.trans (h2.mono hb.size))
      have hbs := hidden hb.size
      clear hown hb
      go_upto_block 2 with (fail)
      go_cut [5] (fun kv wx => ∃ j, j ≤ k ∧ kv = .int .i64 (j : Int) ∧ insAt L (ordTo L k) k k = j ∧ Below wz.heap.size wz wx)
      case first =>
        go_wp2_with fail
        go_loopw [5] (fun i wx => OiRel18 L k wz i wx) (fun i _ => (RowKit.intOf i).toNat)
        case atStart => exact ⟨k, Nat.le_refl _, rfl, rfl, Below.refl _ _⟩
        case round =>
          obtain ⟨j, hj, rfl, hins, hb⟩ := hrel
          replace hins := hidden hins
          cases j with
          | zero =>
            have hE := hidden (show insAt L (ordTo L k) k k = 0 by rw [hins.out]; rfl)
            have hbd := hidden (fun m => below_drewN (m := m) hb)
            clear hins hb hro hx hD
            go_wp2_with fail
            go_quiet (fail)
            go_wp2
            go_meet
            exact ⟨0, Nat.zero_le _, rfl, hE.out, hbd.out _⟩
          | succ p =>
            have hpk : p < k := by omega
            obtain ⟨bo, oo, rfl, co⟩ := (hro.out _ hb).cell p hpk
            rw [nats_at] at co
            have hql : (ordTo L k).getD p 0 < L.length := by have := ordTo_lt (L := L) hpk; omega
            obtain ⟨bl, ol, rfl, q⟩ := hx.out _ hql _ (hbW.out _ hb)
            obtain ⟨_, _, e, r⟩ := hx.out k hlt _ (hbW.out _ hb)
            simp only [Option.some.injEq, Addr.mk.injEq, and_true] at e
            obtain ⟨rfl, rfl⟩ := e
            have hDW := hidden (fun W => hD.out ((ordTo L k).getD p 0) k W hql hlt)
            have hmore := hidden (fun h => @insAt_more L (ordTo L k) k p h)
            have hstop := hidden (fun h => @insAt_stop L (ordTo L k) k p h)
            have hwp : IntKind.i64.wrap (((p + 1 : Nat) : Int) - 1) = (p : Int) := by rw [IntKind.wrap_i64]; omega
            have hwq : IntKind.i64.wrap (p : Int) = (p : Int) := by rw [IntKind.wrap_i64]; omega
            have hpI : 0 < ((p + 1 : Nat) : Int) := by omega
            have hp0 : (0 : Int) ≤ (p : Int) := by omega
            have hpk2 : (p : Int) < (k : Int) := by omega
            have hqI : (((ordTo L k).getD p 0 : Nat) : Int) < (L.length : Int) := by omega
            have hq0 : (0 : Int) ≤ (((ordTo L k).getD p 0 : Nat) : Int) := by omega
            have hk0 : (0 : Int) ≤ (k : Int) := by omega
            have hBw : dear (L.getD ((ordTo L k).getD p 0) ltZ) (L.getD k ltZ) = true ∨ dear (L.getD ((ordTo L k).getD p 0) ltZ) (L.getD k ltZ) = false := by cases dear (L.getD ((ordTo L k).getD p 0) ltZ) (L.getD k ltZ) <;> simp
            have hm2 := hidden (fun h => hins.out.trans (hmore.out h))
            have hs2 := hidden (fun h => hins.out.trans (hstop.out h))
            clear hmore hstop hins hx hD hro
            generalize (ordTo L k).getD p 0 = m at *
            generalize dear (L.getD m ltZ) (L.getD k ltZ) = B at *
            generalize L.getD m ltZ = y at *
            generalize L.getD k ltZ = z at *
            have hs0 := hidden (show OrS wz bo (oo + p) bl (ol + m * 4) (ol + k * 4) (m : Int) y z _ from ⟨co, q, r, hb⟩)
            obtain ⟨yu, yv, yc, yg⟩ := y
            obtain ⟨zu, zv, zc, zg⟩ := z
            clear co q r hb
            go_wp2_with fail
            go_region_held3 (fun W => W.cell? ⟨bo, oo + p, none⟩ = some (.int .i64 (m : Int)) ∧ (W.cell? ⟨bl, ol + m * 4, none⟩ = some (.int .i64 yu) ∧ W.cell? ⟨bl, ol + m * 4 + 1, none⟩ = some (.int .i64 yv) ∧ W.cell? ⟨bl, ol + m * 4 + 2, none⟩ = some (.int .i64 yc) ∧ W.cell? ⟨bl, ol + m * 4 + 3, none⟩ = some (.int .i64 yg)) ∧
              (W.cell? ⟨bl, ol + k * 4, none⟩ = some (.int .i64 zu) ∧ W.cell? ⟨bl, ol + k * 4 + 1, none⟩ = some (.int .i64 zv) ∧ W.cell? ⟨bl, ol + k * 4 + 2, none⟩ = some (.int .i64 zc) ∧ W.cell? ⟨bl, ol + k * 4 + 3, none⟩ = some (.int .i64 zg)) ∧ Below wz.heap.size wz W)
              ((first | exact orS_drew hs0.out | assumption | exact orS_next (y := ⟨yu, yv, yc, yg⟩) (z := ⟨zu, zv, zc, zg⟩) (by assumption) (by assumption)))
              ((go_at_call 48; (with_reducible refine (hDW.out _).mono ?_); rintro r w5 ⟨rfl, hb5⟩))
            all_goals
              rename_i hh
              have hend := hidden hh.2.2.2
              clear hh hs0 hDW
              rcases hBw with hB | hB
              · have hm := hidden (hm2.out hB)
                subst hB
                clear hm2 hs2
                go_wp2
                go_roundw
                case rel => exact ⟨p, by omega, rfl, hm.out, hend.out⟩
                case measure => simp [RowKit.intOf]
              · have hm := hidden (hs2.out hB)
                subst hB
                clear hm2 hs2
                go_wp2
                go_meet
                exact ⟨p + 1, hj, rfl, hm.out, hend.out⟩
      case rest =>
        obtain ⟨j, hj, rfl, hins, hbx⟩ := hcut
        have hrs := hro.out _ hbx
        have htake := hidden (reads_take hrs (m := j) hj)
        have hlk := hidden (ordTo_len L k)
        have hrow := hidden (ins_row L k j hins)
        have hjI : (j : Int) ≤ (k : Int) := by omega
        have hj0 : (0 : Int) ≤ (j : Int) := by omega
        have hjc : (j : Int) ≤ (cv : Int) := by have := hcap.out.1; omega
        have hbw := hidden (hbW.out _ hbx)
        have htl := hidden (show ((nats (ordTo L k)).take j).length = j by rw [List.length_take, nats_len, hlk.out]; omega)
        have hdl := hidden (show ((nats (ordTo L k)).drop j).length = k - j by rw [List.length_drop, nats_len, hlk.out])
        have hIn := hidden (ints_own _ ((nats (ordTo L k)).take j) _ htake.out (by rw [htl.out]; omega))
        rw [htl.out] at hIn
        have hdr := hidden (reads_from18 hrs (m := j) hj)
        have hways : (av = none ∧ k = 0 ∧ cv = 0) ∨ (∃ g, av = some ⟨g, 0, none⟩ ∧ cv = j) ∨ (∃ g, av = some ⟨g, 0, none⟩ ∧ cv ≠ j) := by
          rcases hsh.out with z | ⟨g, z⟩
          · exact .inl z
          · by_cases q : cv = j
            · exact .inr (.inl ⟨g, z, q⟩)
            · exact .inr (.inr ⟨g, z, q⟩)
        clear hro hsh hbs hins hrs htake hcap hx hD hbx hbW
        generalize (nats (ordTo L k)).take j = tk at *
        generalize (nats (ordTo L k)).drop j = dk at *
        rcases hways with ⟨rfl, rfl, rfl⟩ | ⟨g, rfl, rfl⟩ | ⟨g, rfl, hne⟩
        · obtain rfl : j = 0 := by omega
          replace hdr := hidden (show Reads .i64 wc (.slice none 0 0) dk from hdr.out.1 rfl)
          go_wp2_with fail
          (with_reducible refine hIn.out.mono ?_)
          rintro r w5 ⟨v5, rfl, hown5, hb5⟩
          have hs5 := hb5.size
          replace hown5 := hidden hown5
          go_wp2_with (at_builtin; refine wpList_app1w rfl _ _ 26 rfl 3 Tryd.underlying26 infoI64 rfl wc.heap.size _ _ _ rfl hown5.out _ rfl rfl ⟨by omega, by omega⟩ hs5 ?_)
          intro v6 w6 hown6 hb6
          have hb56 := hidden (hb5.trans hb6)
          have hs6 := hb56.out.size
          have hdr6 := hidden (hdr.out.below hb56.out (Nat.le_refl _))
          replace hown6 := hidden hown6
          clear hown5 hb5 hb6 hdr hIn
          go_wp2_with (at_builtin; refine wpList_app rfl _ _ 26 rfl 3 Tryd.underlying26 infoI64 rfl (by decide) wc.heap.size _ _ _ rfl hown6.out rfl hdr6.out (by omega) (by rw [hdl.out]; omega) hs6 ?_)
          intro v7 w7 hown7 hb7
          replace hown7 := hidden (own_from (own_len18 (m := 0 + 1) hown7 (by have := hdl.out; omega) hrow.out) hbw.out.size)
          replace hb7 := hidden (hbw.out.trans ((hb56.out.trans hb7).mono hbw.out.size))
          clear hown6 hdr6 hb56
          go_wp2
          go_roundw
          case rel => exact ⟨0 + 1, hlt, by go_num, hown7.out, hb7.out⟩
          case measure => simp [RowKit.intOf]; omega
        · replace hdr := hidden (show Reads .i64 wc (.slice (some ⟨g, 0, none⟩) (k - cv) 0) dk by have := hdr.out.1 rfl; rwa [Nat.sub_self] at this)
          go_wp2_with fail
          (with_reducible refine hIn.out.mono ?_)
          rintro r w5 ⟨v5, rfl, hown5, hb5⟩
          have hs5 := hb5.size
          replace hown5 := hidden hown5
          go_wp2_with (at_builtin; refine wpList_app1w rfl _ _ 26 rfl 3 Tryd.underlying26 infoI64 rfl wc.heap.size _ _ _ rfl hown5.out _ rfl rfl ⟨by omega, by omega⟩ hs5 ?_)
          intro v6 w6 hown6 hb6
          have hb56 := hidden (hb5.trans hb6)
          have hs6 := hb56.out.size
          have hdr6 := hidden (hdr.out.below hb56.out (Nat.le_refl _))
          replace hown6 := hidden hown6
          clear hown5 hb5 hb6 hdr hIn
          go_wp2_with (at_builtin; refine wpList_app rfl _ _ 26 rfl 3 Tryd.underlying26 infoI64 rfl (by decide) wc.heap.size _ _ _ rfl hown6.out rfl hdr6.out (by omega) (by rw [hdl.out]; omega) hs6 ?_)
          intro v7 w7 hown7 hb7
          replace hown7 := hidden (own_from (own_len18 (m := k + 1) hown7 (by rw [hdl.out]; omega) hrow.out) hbw.out.size)
          replace hb7 := hidden (hbw.out.trans ((hb56.out.trans hb7).mono hbw.out.size))
          clear hown6 hdr6 hb56
          go_wp2
          go_roundw
          case rel => exact ⟨k + 1, hlt, by go_num, hown7.out, hb7.out⟩
          case measure => simp [RowKit.intOf]; omega
        · replace hdr := hidden (show Reads .i64 wc (.slice (some ⟨g, j, none⟩) (k - j) (cv - j)) dk by have := hdr.out.2 g 0 rfl; rwa [Nat.zero_add] at this)
          have hne2 : ¬ (cv : Int) = (j : Int) := by omega
          go_wp2_with fail
          (with_reducible refine hIn.out.mono ?_)
          rintro r w5 ⟨v5, rfl, hown5, hb5⟩
          have hs5 := hb5.size
          replace hown5 := hidden hown5
          go_wp2_with (at_builtin; refine wpList_app1w rfl _ _ 26 rfl 3 Tryd.underlying26 infoI64 rfl wc.heap.size _ _ _ rfl hown5.out _ rfl rfl ⟨by omega, by omega⟩ hs5 ?_)
          intro v6 w6 hown6 hb6
          have hb56 := hidden (hb5.trans hb6)
          have hs6 := hb56.out.size
          have hdr6 := hidden (hdr.out.below hb56.out (Nat.le_refl _))
          replace hown6 := hidden hown6
          clear hown5 hb5 hb6 hdr hIn
          go_wp2_with (at_builtin; refine wpList_app rfl _ _ 26 rfl 3 Tryd.underlying26 infoI64 rfl (by decide) wc.heap.size _ _ _ rfl hown6.out rfl hdr6.out (by omega) (by rw [hdl.out]; omega) hs6 ?_)
          intro v7 w7 hown7 hb7
          replace hown7 := hidden (own_from (own_len18 (m := k + 1) hown7 (by rw [hdl.out]; omega) hrow.out) hbw.out.size)
          replace hb7 := hidden (hbw.out.trans ((hb56.out.trans hb7).mono hbw.out.size))
          clear hown6 hdr6 hb56
          go_wp2
          go_roundw
          case rel => exact ⟨k + 1, hlt, by go_num, hown7.out, hb7.out⟩
          case measure => simp [RowKit.intOf]; omega
    · obtain rfl : k = L.length := by omega
      replace hown := hidden hown
      replace hb := hidden hb
      go_wp2
      go_ret
      exact ⟨_, rfl, hown.out, hb.out⟩
end Go.Proofs.YtpfieoemojnioaaDoor
