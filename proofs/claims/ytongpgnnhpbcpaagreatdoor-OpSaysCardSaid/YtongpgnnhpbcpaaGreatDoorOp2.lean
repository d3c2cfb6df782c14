/-
  Package op: numbers in words, the places that a kind uses, a word's kind.
-/
import Derived.Test.YtongpgnnhpbcpaaGreatDoorOp1
namespace Go.Proofs.YtongpgnnhpbcpaaGreatDoor
open Go.RowKit
set_option linter.unusedVariables false

theorem var_same {P : Program} {w w' : World} {n : String} {cs : Array Value} (h : w.var? P n = some cs) (hb : ∀ i, i < w.heap.size → w'.heap[i]? = w.heap[i]?) : w'.var? P n = some cs := by
  unfold World.var? at h ⊢
  cases hg : P.globalNamed n with
  | none => rw [hg] at h; cases h
  | some g =>
    rw [hg] at h
    simp only [Option.bind_some] at h ⊢
    have hlt : g < w.heap.size := by
      rcases Nat.lt_or_ge g w.heap.size with h' | h'
      · exact h'
      · rw [Array.getElem?_eq_none h'] at h; cases h
    rw [hb g hlt]; exact h
/-- what the calls of package op read that lies in variables. -/
structure OpEnv (A : Nat → Addr) (w : World) : Prop where
  sents : Sents w A
  rows : RowsOn w
  tab : Lib.TabIs Tryz.prog w "internal/strconv.uint64pow10" .u64 Lib.pow10Tab
def SynOn (w : World) : Prop := ∃ tp p, w.var? Tryz.prog "strconv.ErrSyntax" = some #[.iface tp p]
theorem OpEnv.same {A : Nat → Addr} {w w' : World} (h : OpEnv A w) (hb : ∀ i, i < w.heap.size → w'.heap[i]? = w.heap[i]?) : OpEnv A w' := ⟨h.sents.same hb, h.rows.same hb, var_same h.tab hb⟩
theorem OpEnv.below {A : Nat → Addr} {w w' : World} {B : Nat} (h : OpEnv A w) (hb : Below B w w') (hB : w.heap.size ≤ B) : OpEnv A w' := h.same fun i hi => hb.block i (by omega)
theorem SynOn.same {w w' : World} (h : SynOn w) (hb : ∀ i, i < w.heap.size → w'.heap[i]? = w.heap[i]?) : SynOn w' := by
  obtain ⟨tp, p, h⟩ := h
  exact ⟨tp, p, var_same h hb⟩
theorem SynOn.below {w w' : World} {B : Nat} (h : SynOn w) (hb : Below B w w') (hB : w.heap.size ≤ B) : SynOn w' := h.same fun i hi => hb.block i (by omega)

theorem decimal_any (A : Nat → Addr) (n : Int) (w : World) (hE : OpEnv A w) (h0 : -9223372036854775808 ≤ n) (h1 : n ≤ 9223372036854775807) :
    Calls Tryz.prog 30 #[.int .i64 n] w fun e w' => e = .returned (bsV (Lib.itoa n)) ∧ Below w.heap.size w w' := by
  have hF := hidden (format_any25 n h0 h1 w hE.tab)
  clear hE h0 h1
  go_enter Tryz.func30, Tryz.ntmps30
  go_wp2_with fail
  refine hF.out.mono ?_
  rintro e w1 ⟨rfl, hb⟩
  replace hb := hidden hb
  go_wp2
  go_ret
  exact ⟨rfl, hb.out⟩
theorem narrow_any (n : Int) (w : World) (h1 : n ≤ 9223372036854775807) :
    Calls Tryz.prog 40 #[.int .i64 n] w fun e w' => e = .returned (.int .i64 n) ∧ w' = w := by
  have hm : min n 9223372036854775807 = n := by omega
  go_enter Tryz.func40, Tryz.ntmps40
  go_wp2
  go_ret
  exact ⟨rfl, rfl⟩
theorem number_any25 (A : Nat → Addr) (s : ByteArray) (w : World) (hE : OpEnv A w) (hY : SynOn w) :
    Calls Tryz.prog 47 #[.string s] w fun e w' => e = .returned (.tuple #[.int .i64 ((nuO s.data.toList).getD 0), .bool (nuO s.data.toList).isSome]) ∧ Below w.heap.size w w' := by
  have hl : s.data.toList.length = s.size := rfl
  by_cases h18 : s.size ≤ 18
  · have h18I : (s.size : Int) ≤ 18 := by omega
    cases nu_ways s.data.toList (by omega) with
    | none h h2 =>
      rw [h2]
      obtain ⟨tp, p, hv⟩ := hY
      have hP := hidden (parse_no25 s h18 h tp p w hv)
      clear hE hv h h2 hl h18
      go_enter Tryz.func47, Tryz.ntmps47
      go_wp2_with fail
      refine hP.out.mono ?_
      rintro e w1 ⟨N, rfl, hb⟩
      replace hb := hidden hb
      go_wp2
      go_ret2
      exact ⟨rfl, hb.out⟩
    | neg v h hn hb h2 =>
      rw [h2]
      have hP := hidden (parse_ok25 s h18 v h w)
      clear hE h h2 hl h18 hY hb
      go_enter Tryz.func47, Tryz.ntmps47
      go_wp2_with fail
      refine hP.out.mono ?_
      rintro e w1 ⟨rfl, hb⟩
      replace hb := hidden hb
      go_wp2
      go_ret2
      exact ⟨rfl, hb.out⟩
    | other v h hn hb hd h2 =>
      rw [h2]
      have hP := hidden (parse_ok25 s h18 v h w)
      have hD := hidden (fun W (hb : Below w.heap.size w W) => decimal_any A v W (hE.below hb (Nat.le_refl _)) (by omega) (by omega))
      have hn' : ¬ v < 0 := by omega
      have hx : (Lib.itoa v == s.toList) = false := by rw [Lib.toList_data, beq_eq_false_iff_ne]; exact hd
      clear hE h h2 hl h18 hY hb hn hd
      go_enter Tryz.func47, Tryz.ntmps47
      go_wp2_with fail
      refine hP.out.mono ?_
      rintro e w1 ⟨rfl, hb⟩
      replace hb := hidden hb
      go_wp2_with fail
      refine (hD.out _ hb.out).mono ?_
      rintro e w2 ⟨rfl, hb2⟩
      replace hb2 := hidden (hb.out.trans (hb2.mono hb.out.size))
      go_wp2
      go_ret2
      exact ⟨rfl, hb2.out⟩
    | yes v h hn hb hd h2 =>
      rw [h2]
      have hP := hidden (parse_ok25 s h18 v h w)
      have hD := hidden (fun W (hb : Below w.heap.size w W) => decimal_any A v W (hE.below hb (Nat.le_refl _)) (by omega) (by omega))
      have hn' : ¬ v < 0 := by omega
      have hx : (Lib.itoa v == s.toList) = true := by rw [Lib.toList_data, beq_iff_eq]; exact hd
      clear hE h h2 hl h18 hY hb hn hd
      go_enter Tryz.func47, Tryz.ntmps47
      go_wp2_with fail
      refine hP.out.mono ?_
      rintro e w1 ⟨rfl, hb⟩
      replace hb := hidden hb
      go_wp2_with fail
      refine (hD.out _ hb.out).mono ?_
      rintro e w2 ⟨rfl, hb2⟩
      replace hb2 := hidden (hb.out.trans (hb2.mono hb.out.size))
      go_wp2
      go_ret2
      exact ⟨rfl, hb2.out⟩
  · rw [decNat_long (by omega)]
    have h18I : (18 : Int) < (s.size : Int) := by omega
    clear hE hY hl h18
    go_enter Tryz.func47, Tryz.ntmps47
    go_wp2
    go_ret2
    exact ⟨rfl, Below.refl _ _⟩

/-! places, kindOf -/
def usI (K k : Nat) : List Int := ((List.range k).filter (usB K)).map fun (i : Nat) => (i : Int)
theorem usI_yes {K k : Nat} (h : usB K k = true) : usI K (k + 1) = usI K k ++ [(k : Int)] := by
  unfold usI
  rw [List.range_succ, List.filter_append, List.map_append, List.filter_cons, if_pos h]; rfl
theorem usI_no {K k : Nat} (h : usB K k = false) : usI K (k + 1) = usI K k := by
  unfold usI
  rw [List.range_succ, List.filter_append, List.map_append, List.filter_cons, if_neg (by rw [h]; decide)]; simp
theorem usI_len (K k : Nat) : (usI K k).length ≤ k := by
  unfold usI
  rw [List.length_map]
  exact Nat.le_trans (List.length_filter_le _ _) (by simp)
def plL25 (K : Nat) : List Int := (useL K).map fun (i : Nat) => (i : Int)
theorem usI_all {K : Nat} (h : K ≤ 16) : usI K 6 = plL25 K := by unfold usI plL25; rw [places_at h]
def PlRel25 (K : Nat) (w : World) (v i : Value) (wr : World) : Prop :=
  ∃ k : Nat, k ≤ 6 ∧ i = .int .i64 (k : Int) ∧ wr.ownsRow w.heap.size 3 1 v (usI K k).length (ivs (usI K k)) ∧ Below w.heap.size w wr
theorem places_any25 (K : Nat) (w : World) (hR : RowsOn w) (hK : K ≤ 16) :
    Calls Tryz.prog 31 #[.int .i64 (K : Int)] w fun e w' => ∃ v, e = .returned v ∧ w'.ownsRow w.heap.size 3 1 v (plL25 K).length (ivs (plL25 K)) ∧ Below w.heap.size w w' := by
  have hst := hidden (show PlRel25 K w (.slice none 0 0) (.int .i64 0) w from ⟨0, by decide, rfl, World.ownsRow_nil _ _ _ _, Below.refl _ _⟩)
  replace hR := hidden (fun W (hb : Below w.heap.size w W) => hR.below hb (Nat.le_refl _))
  have hall := hidden (usI_all hK)
  go_enter Tryz.func31, Tryz.ntmps31
  go_wp2_with fail
  go_loopw [3, 5] (fun v i wr => PlRel25 K w v i wr) (fun _ i _ => 6 - (intOf i).toNat)
  case atStart => exact hst.out
  case round =>
    clear hst
    obtain ⟨k, hk, rfl, hown, hb⟩ := hrel
    have hB := hb.size
    by_cases hlt : k < 6
    · have hU := hidden (uses_any K k wr (hR.out wr hb) hK hlt)
      have hkI : (k : Int) < 6 := by omega
      have hlen := usI_len K k
      have hy := hidden (@usI_yes K k)
      have hn := hidden (@usI_no K k)
      replace hown := hidden hown
      replace hb := hidden hb
      generalize usB K k = b at hU hy hn
      cases b with
      | true =>
        replace hy := hidden (hy.out rfl)
        clear hn
        go_wp2_with fail
        refine hU.out.mono ?_
        rintro e w1 ⟨rfl, m, rfl⟩
        have hown1 := own_below (w' := wr.drewN m) hown.out (below_drewN (Below.refl wr.heap.size wr)) (Nat.le_refl _)
        have hB1 : w.heap.size ≤ (wr.drewN m).heap.size := hB
        go_wp2_with (at_builtin; refine wpList_app1 rfl _ _ 65 rfl 3 Tryz.underlying65 infoI64 rfl (by decide) w.heap.size _ _ _ rfl hown1 _ rfl rfl ?_ hB1 ?_)
        case _ => omega
        intro v2 w2 hown2 hb2
        go_wp2
        go_roundw
        case rel => exact ⟨k + 1, hlt, by go_num, by rw [hy.out, ivs_snoc, List.length_append]; exact hown2, (below_drewN hb.out).trans hb2⟩
        case measure => simp [intOf]; omega
      | false =>
        replace hn := hidden (hn.out rfl)
        clear hy
        go_wp2_with fail
        refine hU.out.mono ?_
        rintro e w1 ⟨rfl, m, rfl⟩
        go_wp2
        go_roundw
        case rel => exact ⟨k + 1, hlt, by go_num, by rw [hn.out]; exact own_below hown.out (below_drewN (Below.refl wr.heap.size wr)) (Nat.le_refl _), below_drewN hb.out⟩
        case measure => simp [intOf]; omega
    · obtain rfl : k = 6 := by omega
      go_wp2
      go_ret
      exact ⟨_, rfl, by rw [← hall.out]; exact hown, hb⟩
theorem kindOf_any (s : ByteArray) (w : World) (hR : RowsOn w) :
    Calls Tryz.prog 46 #[.string s] w fun e w' => e = .returned (.tuple #[.int .i64 (kdW s.data.toList : Int), .bool (decide (kdW s.data.toList ≠ 0))]) ∧ w' = w := by
  have hN := hidden (fun kd => name_any kd w hR)
  have hl := hidden (Lib.toList_data s)
  have hyes := hidden (fun k (h1 : 1 ≤ k) (h2 : k ≤ 16) (h : nmS k = s.data.toList) => kd_some h1 h2 h)
  have hno := hidden (fun h => @kd_none s.data.toList h)
  clear hR
  go_enter Tryz.func46, Tryz.ntmps46
  go_wp2_with fail
  go_loop [4] (fun i => ∃ k : Nat, 1 ≤ k ∧ k ≤ 17 ∧ i = .int .i64 (k : Int) ∧ ∀ j, 1 ≤ j → j < k → nmS j ≠ s.data.toList) (fun i => 17 - (intOf i).toNat)
  case atStart => exact ⟨1, by decide, by decide, rfl, fun j h1 h2 => by omega⟩
  case round =>
    obtain ⟨k, hk1, hk, rfl, hj⟩ := hrel
    replace hj := hidden hj
    by_cases hlt : k ≤ 16
    · have hkI : (k : Int) ≤ 16 := by omega
      have hC := hN.out (k : Int)
      rw [nmV_in (kd := (k : Int)) rfl hk1 hlt] at hC
      replace hC := hidden hC
      by_cases hs : nmS k = s.data.toList
      · have hq := hidden (hyes.out k hk1 hlt hs)
        have hx : (nmS k == s.toList) = true := by rw [hl.out, beq_iff_eq]; exact hs
        clear hs
        go_wp2_with fail
        refine hC.out.mono ?_
        rintro e w1 ⟨rfl, rfl⟩
        go_wp2
        go_ret2
        exact ⟨ret_ib (by rw [hq.out]) (by rw [hq.out]; exact (decide_eq_true (by omega)).symm), rfl⟩
      · have hx : (nmS k == s.toList) = false := by rw [hl.out, beq_eq_false_iff_ne]; exact hs
        have hnew := hidden (show ∀ j, 1 ≤ j → j < k + 1 → nmS j ≠ s.data.toList from fun j h1 h2 => by
          rcases Nat.lt_or_ge j k with h | h
          · exact hj.out j h1 h
          · obtain rfl : j = k := by omega
            exact hs)
        clear hs
        go_wp2_with fail
        refine hC.out.mono ?_
        rintro e w1 ⟨rfl, rfl⟩
        go_wp2
        go_round
        case rel => exact ⟨k + 1, by omega, by omega, by go_num, hnew.out⟩
        case measure => simp [intOf]; omega
    · obtain rfl : k = 17 := by omega
      have hq := hidden (hno.out fun j h1 h2 => hj.out j h1 (by omega))
      go_wp2
      go_ret2
      exact ⟨ret_ib (by rw [hq.out]; rfl) (by rw [hq.out]; rfl), rfl⟩
end Go.Proofs.YtongpgnnhpbcpaaGreatDoor
