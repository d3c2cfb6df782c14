import Derived.Test.YtefjemkpbkikbaaDoorNeed2
import Derived.Test.YtefjemkpbkikbaaDoorNumber
import Derived.Test.YtefjemkpbkikbaaDoorStep
import Derived.Test.YtefjemkpbkikbaaDoorTake
import Derived.Test.YtefjemkpbkikbaaDoorRowKeep
import Derived.Test.YtefjemkpbkikbaaDoorLaidOn
import Derived.Deep.DeepCutAuto
namespace Go.Proofs.YtefjemkpbkikbaaDoor
open Go.RowKit
set_option linter.unusedVariables false

/-- a state out of a number. -/
def mkN (n : Int) : Nd := ⟨n % 50, n.tdiv 50 % 50⟩
theorem mkN_ok (n : Int) : ndOk (mkN n) := by
  unfold ndOk mkN
  simp only
  omega
theorem tdiv50 {n : Int} (h0 : -9223372036854775808 ≤ n) (h1 : n ≤ 9223372036854775807) : -9223372036854775808 ≤ n.tdiv 50 ∧ n.tdiv 50 ≤ 9223372036854775807 := by
  by_cases h : 0 ≤ n
  · rw [Int.tdiv_eq_ediv_of_nonneg h]; omega
  · have e : n = -(-n) := by omega
    rw [e, Int.neg_tdiv, Int.tdiv_eq_ediv_of_nonneg (by omega)]; omega
theorem mkN_sh (n : Int) : shV (mkN n) ≤ 49 := by
  rw [shV_ok (mkN_ok n)]
  unfold mkN
  simp only
  omega
theorem mkN_sum (l : List Int) : sumS (l.map mkN) ≤ (l.length : Int) * 49 := by
  have h : ∀ k, k ≤ (l.map mkN).length → sumS ((l.map mkN).take k) ≤ (k : Int) * 49 := by
    intro k
    induction k with
    | zero => intro _; rw [List.take_zero, sumS_nil]; omega
    | succ k ih =>
      intro hk
      rw [sumS_take _ k (by omega)]
      have := ih (by omega)
      obtain ⟨n, _, e⟩ := List.mem_map.1 (getN_mem (l := l.map mkN) (k := k) (by omega))
      have := mkN_sh n
      rw [e] at this
      omega
  have := h _ (Nat.le_refl _)
  rw [List.take_length, List.length_map] at this
  exact this
/-- a state in a block of its own. -/
structure NdBl (w : World) (g : Nat) (s : Nd) : Prop where
  row : w.heap[g]? = some (ndO s)
theorem NdBl.cells {w : World} {g : Nat} {s : Nd} (h : NdBl w g s) : w.cell? ⟨g, 0, none⟩ = some (.int .i64 s.n) ∧ w.cell? ⟨g, 1, none⟩ = some (.int .i64 s.h) := by
  constructor <;> (rw [cell_of_row _ _ _ _ _ _ h.row]; rfl)
theorem NdBl.below {w w' : World} {g : Nat} {s : Nd} (h : NdBl w g s) (hb : Below w.heap.size w w') : NdBl w' g s := ⟨by rw [hb.block _ (Array.getElem?_eq_some_iff.1 h.row).1]; exact h.row⟩
theorem ndBl_new (w : World) (s : Nd) : NdBl (w.alloc (ndO s)) w.heap.size s := ⟨heap_alloc_new w _⟩
theorem infoNd : (Tryd.prog.info? ndTy).map (fun i => (i.zero, i.size, i.bytes)) = some (some (.agg #[.int .i64 0, .int .i64 0]), 2, 16) := by kernel_rfl
abbrev OwnNd (base : Nat) (w : World) (v : Value) (l : List Nd) : Prop := OwnR ndV 2 ndTy base w v l
theorem take_mapI (l : List Int) (k : Nat) (h : k < l.length) : (l.take (k + 1)).map mkN = (l.take k).map mkN ++ [mkN (l.getD k 0)] := by
  rw [List.take_succ_eq_append_getElem h, List.map_append, List.getD_eq_getElem?_getD, List.getElem?_eq_getElem h]
  rfl
def NwRel1 (l : List Int) (w0 : World) (v s i : Value) (w : World) : Prop :=
  ∃ k : Nat, k ≤ l.length ∧ i = .int .i64 (k : Int) ∧ s = .int .i64 (sumS ((l.take k).map mkN)) ∧ OwnNd w0.heap.size w v ((l.take k).map mkN) ∧ Below w0.heap.size w0 w
abbrev NwS (w : World) (b o p : Nat) (en eh fn fh : Int) (W : World) : Prop := (W.cell? ⟨b, o, none⟩ = some (.int .i64 en) ∧ W.cell? ⟨b, o + 1, none⟩ = some (.int .i64 eh) ∧ W.cell? ⟨b, p, none⟩ = some (.int .i64 fn) ∧ W.cell? ⟨b, p + 1, none⟩ = some (.int .i64 fh)) ∧ Below w.heap.size w W
def NwRel2 (M : List Nd) (w0 : World) (i : Value) (w : World) : Prop := ∃ k : Nat, k ≤ M.length ∧ i = .int .i64 (k : Int) ∧ Below w0.heap.size w0 w
set_option maxRecDepth 100000 in
set_option maxHeartbeats 12800000 in
theorem walk_needWorst (v : Value) (l : List Int) (A : Nat → Addr) (w : World) (hr : Reads .i64 w v l) (hl : ∀ x ∈ l, -9223372036854775808 ≤ x ∧ x ≤ 9223372036854775807) (hS : SentsOn [2, 3] w A) :
    Calls Tryd.prog 5 #[v] w fun r w' => r = .returned (.bool true) ∧ Below w.heap.size w w' := by
  obtain ⟨va, vc, rfl⟩ := reads_slice hr
  have hE := hidden hS.on
  have hE2 := hidden (hS.on.sub (ks := [2]) (by simp))
  have hF := hidden (law17_first A w hE2.out)
  have hx := hidden (fun k hk W (h2 : Below w.heap.size w W) => (hr.below h2 (Nat.le_refl _)).cell k hk)
  have hSh := hidden (fun s W (h2 : Below w.heap.size w W) => short_any A s W (hE2.out.below h2 (Nat.le_refl _)))
  have hWo := hidden (fun v l W (h2 : Below w.heap.size w W) hr hl => worst_any A W v l hr hl (hE2.out.below h2 (Nat.le_refl _)))
  have hTo := hidden (fun v l W (h2 : Below w.heap.size w W) hr hl => needTotal_any A W v l hr hl (hE.out.below h2 (Nat.le_refl _)))
  replace hl := hidden hl
  clear hr hS
  by_cases t1 : (20 : Int) < (l.length : Int)
  · clear hx hSh hWo hTo
    go_enter Tryd.func5, Tryd.ntmps5
    go_wp2_with fail
    refine hF.out.mono ?_
    rintro r w1 ⟨rfl, hb⟩
    replace hb := hidden hb
    go_wp2
    go_ret
    exact ⟨rfl, hb.out⟩
  · go_enter Tryd.func5, Tryd.ntmps5
    go_wp2_with fail
    refine hF.out.mono ?_
    rintro r w1 ⟨rfl, hb⟩
    replace hb := hidden hb
    clear hF
    go_wp2_with fail
    go_loopw [4, 5, 6] (fun v s i wr => NwRel1 l w v s i wr) (fun _ _ i _ => l.length - (RowKit.intOf i).toNat)
    case atStart => exact ⟨0, Nat.zero_le _, rfl, rfl, OwnR.nil _ _ _, hb.out⟩
    case round =>
      clear hb
      obtain ⟨k, hk, rfl, rfl, hown, hb⟩ := hrel
      by_cases hlt : k < l.length
      · obtain ⟨bl, ol, rfl, hc⟩ := hx.out k hlt _ hb
        have hx0 : l.getD k 0 ∈ l := by rw [List.getD_eq_getElem?_getD, List.getElem?_eq_getElem hlt]; exact List.getElem_mem hlt
        obtain ⟨m0, m1⟩ := hl.out _ hx0
        have hq := hidden (fun W (h2 : Below w.heap.size w W) => show W.cell? ⟨bl, ol + k, none⟩ = some (.int .i64 (l.getD k 0)) by
          obtain ⟨b', o', e, q⟩ := hx.out k hlt _ h2
          simp only [Option.some.injEq, Addr.mk.injEq, and_true] at e
          obtain ⟨rfl, rfl⟩ := e
          exact q)
        have hlI : (k : Int) < (l.length : Int) := by omega
        have htk := hidden (take_mapI l k hlt)
        have hsk := hidden (show sumS ((l.take (k + 1)).map mkN) = sumS ((l.take k).map mkN) + shV (mkN (l.getD k 0)) by rw [htk.out, sumS_snoc])
        have hsb := sumS_all ((l.take k).map mkN)
        have hlk := hidden (show ((l.take k).map mkN).length ≤ 1000000 by rw [List.length_map, List.length_take]; omega)
        rw [List.length_map, List.length_take, Nat.min_eq_left (by omega)] at hsb
        generalize l.getD k 0 = n at *
        generalize sumS ((l.take k).map mkN) = S at *
        have hmk : mkN n = ⟨n % 50, n.tdiv 50 % 50⟩ := rfl
        obtain ⟨d0, d1⟩ := tdiv50 m0 m1
        have hwd : IntKind.i64.wrap (n.tdiv 50) = n.tdiv 50 := by rw [IntKind.wrap_i64]; omega
        have nA := hidden (fun W => number_any n 50 W m0 m1 (by decide) (by decide))
        have nB := hidden (fun W => number_any (n.tdiv 50) 50 W d0 d1 (by decide) (by decide))
        have hyb := shV_bd (mkN n)
        have hy := hidden (fun W h2 => hSh.out (mkN n) W h2)
        generalize shV (mkN n) = y at *
        rw [hmk] at hy htk
        clear hmk
        generalize n % 50 = p at *
        generalize hdd : n.tdiv 50 = d at *
        generalize d % 50 = q at *
        have hs0 := hidden (hq.out _ hb.drew)
        have hq' := hidden (fun W (h : Below w.heap.size w W) => show W.cell? ⟨bl, ol + k, none⟩ = some (.int .i64 n) ∧ Below w.heap.size w W from ⟨hq.out W h, h⟩)
        have hbr := hidden hb.size
        replace hown := hidden hown
        replace hb := hidden hb
        clear hx0 hx
        go_upto_region 11 with (fail)
        go_cut [7] (fun v wx => ∃ g, v = .pointer (some ⟨g, 0, none⟩) ∧ NdBl wx g ⟨p, q⟩ ∧ wr.heap.size ≤ g ∧ Below wr.heap.size wr wx)
        case first =>
          go_region_held3 (fun W => W.cell? ⟨bl, ol + k, none⟩ = some (.int .i64 n) ∧ Below w.heap.size w W)
            ((first | exact ⟨hs0.out, hb.out.drew⟩ | assumption | exact hq'.out _ (hb.out.alloc hbr.out _).drew))
            ((first
              | (go_at_call 16; (with_reducible refine (nA.out _).mono ?_); rintro e w' ⟨rfl, rfl⟩)
              | (go_at_call 16; (with_reducible refine (nB.out _).mono ?_); rintro e w' ⟨rfl, rfl⟩)))
          all_goals
            go_wp2_with fail
            go_meet
            first | exact ⟨_, rfl, ⟨heap_alloc_new wr _⟩, Nat.le_refl _, ((Below.refl wr.heap.size wr).alloc (Nat.le_refl _) _).drew⟩ | exact ⟨_, rfl, ⟨heap_alloc_new wr _⟩, Nat.le_refl _, (Below.refl wr.heap.size wr).alloc (Nat.le_refl _) _⟩
        case rest =>
          obtain ⟨g, rfl, hN, hgw, hbx⟩ := hcut
          have hne := hidden (fun j (hj : u4.ownBlock = some j) => show ¬ g = j from by
            have := (World.ownsRow.lt hown.out j hj).2
            omega)
          have hown2 := hidden (hown.out.below hbx (Nat.le_refl _))
          have hb2 := hidden (hb.out.trans (hbx.mono hbr.out))
          have hbw := hidden hb2.out.size
          obtain ⟨c0, c1⟩ := hN.cells
          simp only at c0 c1
          have hrg := hidden hN.row
          have hlow := hidden (Array.getElem?_eq_some_iff.1 hN.row).1
          clear hown hb hbr hbx hN nA nB hs0 hq' hq hgw
          go_wp2_with (at_builtin; refine wpList_appR1K rfl _ _ 22 rfl ndV_len ndV_one (by decide) 25 Tryd.underlying22 infoNd rfl (by decide) w.heap.size _ ((l.take k).map mkN) rfl hown2.out ⟨p, q⟩ _ rfl _ rfl (by simp) hlk.out hbw.out ?_)
          intro v2 w4 hown3 hb4 ht4
          have hN4 : NdBl w4 g ⟨p, q⟩ := ⟨(ht4.block g hlow.out (fun e => hne.out _ e rfl)).trans hrg.out⟩
          obtain ⟨c0, c1⟩ := hN4.cells
          simp only at c0 c1
          replace hown3 := hidden hown3
          have hb5 := hidden (hb2.out.trans hb4)
          have hyW := hidden (hy.out _ hb5.out)
          have hwr : IntKind.i64.wrap (S + y) = S + y := by rw [IntKind.wrap_i64]; omega
          clear hb4 ht4 hN4 hown2 hrg hlow hb2 hbw hy hne
          go_wp2_with fail
          (with_reducible refine hyW.out.mono ?_)
          rintro r w5 ⟨rfl, hb6⟩
          have hown5 := hidden (hown3.out.below hb6 (Nat.le_refl _))
          have hb7 := hidden (hb5.out.trans (hb6.mono hb5.out.size))
          clear hb6 hown3 hb5 hyW
          go_wp2
          go_roundw
          case rel => exact ⟨k + 1, hlt, by go_num, by rw [hsk.out], by rw [htk.out]; first | exact hown5.out | (rw [List.map_take]; exact hown5.out), hb7.out⟩
          case measure => simp [RowKit.intOf]; omega
      · obtain rfl : k = l.length := by omega
        obtain ⟨wu, rfl⟩ : ∃ w3, w3 = wr := ⟨_, rfl⟩
        rw [List.take_length] at hown
        have hrow := hown.row ndV_len
        have hML : (l.map mkN).length = l.length := List.length_map _
        have hall : ∀ x ∈ l.map mkN, ndOk x := fun x hx => by
          obtain ⟨n, _, rfl⟩ := List.mem_map.1 hx
          exact mkN_ok n
        have hSm := mkN_sum l
        clear hown hl hx
        rw [List.take_length]
        generalize l.map mkN = M at *
        have hM20 : M.length ≤ 20 := by omega
        have hS0 := (sumS_all M).1
        have hT := hidden (fun v W (h2 : Below w.heap.size w W) (hr : Row ndV 2 W v M) => hTo.out v M W h2 hr (by omega))
        rw [(ndTC_fine hall (by omega)).1, (ndTC_fine hall (by omega)).2, errOf_fine] at hT
        have hW1 := hidden (hWo.out u4 M wu hb hrow (by omega))
        unfold WorstAt at hW1
        rw [← hML] at *
        obtain ⟨ma, mc, rfl⟩ := row_slice hrow
        have hrl := hidden (fun k hk W (h2 : Below wu.heap.size wu W) => rowN_at (hrow.below ndV_len h2 (Nat.le_refl _)) k hk)
        have hrw := hidden (fun W (h2 : Below wu.heap.size wu W) => hrow.below ndV_len h2 (Nat.le_refl _))
        replace hb := hidden hb
        clear hrow hWo hTo hML
        go_wp2_with fail
        (with_reducible refine hW1.out.mono ?_)
        rintro r w2 ⟨q, x, hws, rfl, hb2⟩
        have hsum := wsAt_sum hws
        have hT2 := hidden (hT.out _ w2 (hb.out.trans (hb2.mono hb.out.size)) (hrw.out _ hb2))
        generalize sumS M = S at *
        replace hb2 := hidden hb2
        replace hws := hidden hws
        clear hT hW1 hrw hSm
        by_cases hx0 : 0 < x
        · have hS1 : 0 < S := hsum.1 hx0
          clear hsum
          go_wp2_with fail
          (with_reducible refine hT2.out.mono ?_)
          rintro r w3 ⟨rfl, hb3⟩
          replace hb3 := hidden (hb2.out.trans (hb3.mono hb2.out.size))
          have hb4 := hidden (hb.out.trans (hb3.out.mono hb.out.size))
          clear hT2 hb2
          go_wp2_with fail
          go_loopw [12] (fun i wr2 => NwRel2 M wu i wr2) (fun i _ => M.length - (RowKit.intOf i).toNat)
          case atStart => exact ⟨0, Nat.zero_le _, rfl, hb3.out⟩
          case round =>
            clear hb3 hb4
            obtain ⟨k, hk, rfl, hb5⟩ := hrel
            by_cases hlt : k < M.length
            · obtain ⟨hw1, hw2, hw3, hw4, hw5⟩ := hws.out
              obtain ⟨hq1, hq2, hq3⟩ := hw5 hx0
              have hyx := hw3 k hlt
              have hny := fun h => hq3 k h
              obtain ⟨mb, mo, rfl, _⟩ := hrl.out k hlt _ hb5
              have he := hidden (fun W (h2 : Below wu.heap.size wu W) => show NdAt W mb (mo + k * 2) (M.getD k ndZ) by
                obtain ⟨b', o', e, q⟩ := hrl.out k hlt _ h2
                simp only [Option.some.injEq, Addr.mk.injEq, and_true] at e
                obtain ⟨rfl, rfl⟩ := e
                exact q)
              have hf := hidden (fun W (h2 : Below wu.heap.size wu W) => show NdAt W mb (mo + q * 2) (M.getD q ndZ) by
                obtain ⟨b', o', e, q⟩ := hrl.out q hq1 _ h2
                simp only [Option.some.injEq, Addr.mk.injEq, and_true] at e
                obtain ⟨rfl, rfl⟩ := e
                exact q)
              have hSe := hidden (fun W (h2 : Below wu.heap.size wu W) => hSh.out (M.getD k ndZ) W (hb.out.trans (h2.mono hb.out.size)))
              have hSf := hidden (fun W (h2 : Below wu.heap.size wu W) => hSh.out (M.getD q ndZ) W (hb.out.trans (h2.mono hb.out.size)))
              rw [hq2] at hSf
              have hlI : (k : Int) < (M.length : Int) := by omega
              have hqI : (q : Int) < (M.length : Int) := by omega
              generalize M.getD k ndZ = e at *
              generalize M.getD q ndZ = f at *
              generalize shV e = y at *
              obtain ⟨en, eh⟩ := e
              obtain ⟨fn, fh⟩ := f
              have hS2 := hidden (fun W (h2 : Below wu.heap.size wu W) => show NwS wu mb (mo + k * 2) (mo + q * 2) en eh fn fh W from ⟨⟨(he.out W h2).1, (he.out W h2).2, (hf.out W h2).1, (hf.out W h2).2⟩, h2⟩)
              have hs0 := hidden (hS2.out _ hb5.drew)
              have b1 : decide (x < y) = false := decide_eq_false (by omega)
              replace hb5 := hidden hb5
              clear he hf hw1 hw2 hw3 hw4 hw5 hq1 hq2 hq3 hrl hyx
              by_cases hkq : k < q
              · have b2 : decide ((k : Int) < (q : Int)) = true := decide_eq_true (by omega)
                have b3 : (y == x) = false := by rw [beq_eq_false_iff_ne]; have := hny hkq; omega
                clear hny
                go_wp2_with fail
                first | (go_region_held3 (fun W => (W.cell? ⟨mb, mo + k * 2, none⟩ = some (.int .i64 en) ∧ W.cell? ⟨mb, mo + k * 2 + 1, none⟩ = some (.int .i64 eh) ∧ W.cell? ⟨mb, mo + q * 2, none⟩ = some (.int .i64 fn) ∧ W.cell? ⟨mb, mo + q * 2 + 1, none⟩ = some (.int .i64 fh)) ∧ Below wu.heap.size wu W)
                  ((first | exact hs0.out | assumption | exact hS2.out _ (Below.trans (And.right (by assumption)) (hb7.mono (Below.size (And.right (by assumption)))))))
                  ((first
                    | (go_at_call 11; (with_reducible refine (hSe.out _ (And.right (by assumption))).mono ?_); rintro r wC ⟨rfl, hb7⟩)
                    | (go_at_call 11; (with_reducible refine (hSf.out _ (And.right (by assumption))).mono ?_); rintro r wC ⟨rfl, hb7⟩)))) | fail
                rename_i hh
                have hbF := hidden hh.2
                clear hh hs0
                go_wp2
                go_roundw
                case rel => exact ⟨k + 1, hlt, by go_num, hbF.out⟩
                case measure => simp [RowKit.intOf]; omega
              · have b2 : decide ((k : Int) < (q : Int)) = false := decide_eq_false (by omega)
                clear hny
                go_wp2_with fail
                refine wp_region_held_drew (S := (fun W => (W.cell? ⟨mb, mo + k * 2, none⟩ = some (.int .i64 en) ∧ W.cell? ⟨mb, mo + k * 2 + 1, none⟩ = some (.int .i64 eh) ∧ W.cell? ⟨mb, mo + q * 2, none⟩ = some (.int .i64 fn) ∧ W.cell? ⟨mb, mo + q * 2 + 1, none⟩ = some (.int .i64 fh)) ∧ Below wu.heap.size wu W)) (by kernel_rfl) hs0.out (fun hHeld => ?_)
                refine take_plain 0 82 (.slice (some ⟨mb, mo, none⟩) M.length mc) rfl rfl (by kernel_rfl) (by kernel_rfl) (by kernel_rfl) (fun _ _ _ h => h) (by rfl) ?_ hHeld ?_
                · intro w hSw
                  try dsimp only at hSw
                  go_simp
                simp only [Act.put, List.setIfInBounds_toArray, List.set_cons_zero, List.set_cons_succ]
                refine take_plain 1 83 (.int .i64 (k : Int)) rfl rfl (by kernel_rfl) (by kernel_rfl) (by kernel_rfl) (fun _ _ _ h => h) (by rfl) ?_ hHeld ?_
                · intro w hSw
                  try dsimp only at hSw
                  go_simp
                simp only [Act.put, List.setIfInBounds_toArray, List.set_cons_zero, List.set_cons_succ]
                refine take_plain 2 84 (.pointer (some ⟨mb, mo + k * 2, none⟩)) rfl rfl (by kernel_rfl) (by kernel_rfl) (by kernel_rfl) (fun _ _ _ h => h) (by rfl) ?_ hHeld ?_
                · intro w hSw
                  try dsimp only at hSw
                  go_simp
                simp only [Act.put, List.setIfInBounds_toArray, List.set_cons_zero, List.set_cons_succ]
                refine take_plain 3 85 (.agg #[.int .i64 en, .int .i64 eh]) rfl rfl (by kernel_rfl) (by kernel_rfl) (by kernel_rfl) (fun _ _ _ h => h) (by rfl) ?_ hHeld ?_
                · intro w hSw
                  try dsimp only at hSw
                  go_simp
                simp only [Act.put, List.setIfInBounds_toArray, List.set_cons_zero, List.set_cons_succ]
                refine take_plain 5 87 (.slice (some ⟨mb, mo, none⟩) M.length mc) rfl rfl (by kernel_rfl) (by kernel_rfl) (by kernel_rfl) (fun _ _ _ h => h) (by rfl) ?_ hHeld ?_
                · intro w hSw
                  try dsimp only at hSw
                  go_simp
                simp only [Act.put, List.setIfInBounds_toArray, List.set_cons_zero, List.set_cons_succ]
                refine take_plain 6 88 (.int .i64 (q : Int)) rfl rfl (by kernel_rfl) (by kernel_rfl) (by kernel_rfl) (fun _ _ _ h => h) (by rfl) ?_ hHeld ?_
                · intro w hSw
                  try dsimp only at hSw
                  go_simp
                simp only [Act.put, List.setIfInBounds_toArray, List.set_cons_zero, List.set_cons_succ]
                refine take_plain 7 89 (.pointer (some ⟨mb, mo + q * 2, none⟩)) rfl rfl (by kernel_rfl) (by kernel_rfl) (by kernel_rfl) (fun _ _ _ h => h) (by rfl) ?_ hHeld ?_
                · intro w hSw
                  try dsimp only at hSw
                  go_simp
                simp only [Act.put, List.setIfInBounds_toArray, List.set_cons_zero, List.set_cons_succ]
                refine take_plain 8 90 (.agg #[.int .i64 fn, .int .i64 fh]) rfl rfl (by kernel_rfl) (by kernel_rfl) (by kernel_rfl) (fun _ _ _ h => h) (by rfl) ?_ hHeld ?_
                · intro w hSw
                  try dsimp only at hSw
                  go_simp
                simp only [Act.put, List.setIfInBounds_toArray, List.set_cons_zero, List.set_cons_succ]
                refine wpAnyH_ready (rs := [4]) (by kernel_rfl) (by simp) ?_
                refine AllReadyH.cons rfl (fun K hK => ?_) AllReadyH.nil
                go_simp
                go_at_call 11
                (with_reducible refine (hSe.out _ hHeld.2).mono ?_)
                rintro r wC ⟨rfl, hb7⟩
                go_wp2_with fail
                refine hK.out _ _ ?_ (fun hHeld => ?_)
                · exact hS2.out _ (hHeld.2.trans (hb7.mono (Below.size hHeld.2)))
                clear hK K hb7
                refine wpAnyH_ready (rs := [9]) (by kernel_rfl) (by simp) ?_
                refine AllReadyH.cons rfl (fun K hK => ?_) AllReadyH.nil
                go_simp
                go_at_call 11
                (with_reducible refine (hSf.out _ hHeld.2).mono ?_)
                rintro r wC ⟨rfl, hb7⟩
                go_wp2_with fail
                refine hK.out _ _ ?_ (fun hHeld => ?_)
                · exact hS2.out _ (hHeld.2.trans (hb7.mono (Below.size hHeld.2)))
                clear hK K hb7
                refine take_plain 10 92 (.bool false) rfl rfl (by kernel_rfl) (by kernel_rfl) (by kernel_rfl) (fun _ _ _ h => h) (by rfl) ?_ hHeld ?_
                · intro w hSw
                  try dsimp only at hSw
                  go_simp
                simp only [Act.put, List.setIfInBounds_toArray, List.set_cons_zero, List.set_cons_succ]
                refine take_plain 11 93 (.bool false) rfl rfl (by kernel_rfl) (by kernel_rfl) (by kernel_rfl) (fun _ _ _ h => h) (by rfl) ?_ hHeld ?_
                · intro w hSw
                  try dsimp only at hSw
                  go_simp
                simp only [Act.put, List.setIfInBounds_toArray, List.set_cons_zero, List.set_cons_succ]
                refine take_plain 12 94 (.int .i64 (k : Int)) rfl rfl (by kernel_rfl) (by kernel_rfl) (by kernel_rfl) (fun _ _ _ h => h) (by rfl) ?_ hHeld ?_
                · intro w hSw
                  try dsimp only at hSw
                  go_simp
                simp only [Act.put, List.setIfInBounds_toArray, List.set_cons_zero, List.set_cons_succ]
                refine take_plain 13 95 (.int .i64 (q : Int)) rfl rfl (by kernel_rfl) (by kernel_rfl) (by kernel_rfl) (fun _ _ _ h => h) (by rfl) ?_ hHeld ?_
                · intro w hSw
                  try dsimp only at hSw
                  go_simp
                simp only [Act.put, List.setIfInBounds_toArray, List.set_cons_zero, List.set_cons_succ]
                refine take_plain 14 96 (.bool false) rfl rfl (by kernel_rfl) (by kernel_rfl) (by kernel_rfl) (fun _ _ _ h => h) (by rfl) ?_ hHeld ?_
                · intro w hSw
                  try dsimp only at hSw
                  go_simp
                simp only [Act.put, List.setIfInBounds_toArray, List.set_cons_zero, List.set_cons_succ]
                refine take_plain 15 97 (.bool false) rfl rfl (by kernel_rfl) (by kernel_rfl) (by kernel_rfl) (fun _ _ _ h => h) (by rfl) ?_ hHeld ?_
                · intro w hSw
                  try dsimp only at hSw
                  go_simp
                simp only [Act.put, List.setIfInBounds_toArray, List.set_cons_zero, List.set_cons_succ]
                refine take_struck 16 98 rfl rfl (by kernel_rfl) (by kernel_rfl) (by kernel_rfl) (fun _ _ _ h => h) (by rfl) hHeld ?_
                simp only [Act.put, List.setIfInBounds_toArray, List.set_cons_zero, List.set_cons_succ]
                refine take_struck 17 99 rfl rfl (by kernel_rfl) (by kernel_rfl) (by kernel_rfl) (fun _ _ _ h => h) (by rfl) hHeld ?_
                simp only [Act.put, List.setIfInBounds_toArray, List.set_cons_zero, List.set_cons_succ]
                refine take_struck 18 100 rfl rfl (by kernel_rfl) (by kernel_rfl) (by kernel_rfl) (fun _ _ _ h => h) (by rfl) hHeld ?_
                simp only [Act.put, List.setIfInBounds_toArray, List.set_cons_zero, List.set_cons_succ]
                refine take_struck 19 101 rfl rfl (by kernel_rfl) (by kernel_rfl) (by kernel_rfl) (fun _ _ _ h => h) (by rfl) hHeld ?_
                simp only [Act.put, List.setIfInBounds_toArray, List.set_cons_zero, List.set_cons_succ]
                refine take_struck 20 102 rfl rfl (by kernel_rfl) (by kernel_rfl) (by kernel_rfl) (fun _ _ _ h => h) (by rfl) hHeld ?_
                simp only [Act.put, List.setIfInBounds_toArray, List.set_cons_zero, List.set_cons_succ]
                refine take_struck 21 103 rfl rfl (by kernel_rfl) (by kernel_rfl) (by kernel_rfl) (fun _ _ _ h => h) (by rfl) hHeld ?_
                simp only [Act.put, List.setIfInBounds_toArray, List.set_cons_zero, List.set_cons_succ]
                refine take_struck 22 104 rfl rfl (by kernel_rfl) (by kernel_rfl) (by kernel_rfl) (fun _ _ _ h => h) (by rfl) hHeld ?_
                simp only [Act.put, List.setIfInBounds_toArray, List.set_cons_zero, List.set_cons_succ]
                refine take_struck 23 105 rfl rfl (by kernel_rfl) (by kernel_rfl) (by kernel_rfl) (fun _ _ _ h => h) (by rfl) hHeld ?_
                simp only [Act.put, List.setIfInBounds_toArray, List.set_cons_zero, List.set_cons_succ]
                refine take_struck 24 106 rfl rfl (by kernel_rfl) (by kernel_rfl) (by kernel_rfl) (fun _ _ _ h => h) (by rfl) hHeld ?_
                simp only [Act.put, List.setIfInBounds_toArray, List.set_cons_zero, List.set_cons_succ]
                refine take_struck 25 107 rfl rfl (by kernel_rfl) (by kernel_rfl) (by kernel_rfl) (fun _ _ _ h => h) (by rfl) hHeld ?_
                simp only [Act.put, List.setIfInBounds_toArray, List.set_cons_zero, List.set_cons_succ]
                refine take_struck 26 108 rfl rfl (by kernel_rfl) (by kernel_rfl) (by kernel_rfl) (fun _ _ _ h => h) (by rfl) hHeld ?_
                simp only [Act.put, List.setIfInBounds_toArray, List.set_cons_zero, List.set_cons_succ]
                refine take_plain 27 109 (.bool false) rfl rfl (by kernel_rfl) (by kernel_rfl) (by kernel_rfl) (fun _ _ _ h => h) (by rfl) ?_ hHeld ?_
                · intro w hSw
                  try dsimp only at hSw
                  go_simp
                simp only [Act.put, List.setIfInBounds_toArray, List.set_cons_zero, List.set_cons_succ]
                refine take_plain 28 110 (.bool false) rfl rfl (by kernel_rfl) (by kernel_rfl) (by kernel_rfl) (fun _ _ _ h => h) (by rfl) ?_ hHeld ?_
                · intro w hSw
                  try dsimp only at hSw
                  go_simp
                simp only [Act.put, List.setIfInBounds_toArray, List.set_cons_zero, List.set_cons_succ]
                refine wpAnyH_done (by kernel_rfl) ?_ _
                have hbF := hidden hHeld.2
                clear hHeld hs0
                go_wp2
                go_roundw
                case rel => exact ⟨k + 1, hlt, by go_num, hbF.out⟩
                case measure => simp [RowKit.intOf]; omega
            · obtain rfl : k = M.length := by omega
              replace hb5 := hidden (hb.out.trans (hb5.mono hb.out.size))
              go_wp2
              go_ret
              exact ⟨rfl, hb5.out⟩
        · have hx1 : x = 0 := by have := hws.out.1; omega
          have hS1 : ¬ 0 < S := fun h => hx0 (hsum.2 h)
          have hS2 : S = 0 := by omega
          obtain rfl := (hws.out.2.2.2.1 hx1)
          subst hx1
          subst hS2
          clear hsum hws
          go_wp2_with fail
          (with_reducible refine hT2.out.mono ?_)
          rintro r w3 ⟨rfl, hb3⟩
          replace hb3 := hidden (hb2.out.trans (hb3.mono hb2.out.size))
          have hb4 := hidden (hb.out.trans (hb3.out.mono hb.out.size))
          clear hT2 hb2
          go_wp2_with fail
          go_loopw [12] (fun i wr2 => i = .int .i64 0 ∧ w3 = wr2) (fun i _ => 0)
          case atStart => exact ⟨rfl, rfl⟩
          case round =>
            obtain ⟨rfl, rfl⟩ := hrel
            by_cases hlt : 0 < M.length
            · have hlI : (0 : Int) < (M.length : Int) := by omega
              go_wp2
              go_ret
              exact ⟨rfl, hb4.out⟩
            · have hlI : ¬ (0 : Int) < (M.length : Int) := by omega
              go_wp2
              go_ret
              exact ⟨rfl, hb4.out⟩
end Go.Proofs.YtefjemkpbkikbaaDoor
