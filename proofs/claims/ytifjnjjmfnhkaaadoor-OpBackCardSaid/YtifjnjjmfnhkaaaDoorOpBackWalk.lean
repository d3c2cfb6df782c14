/-
  pledgelaw25.OpBack: for every two operations and every place to cut.
-/
import Derived.Test.YtifjnjjmfnhkaaaDoorOpLaw
import Derived.Test.YtifjnjjmfnhkaaaDoorLaidOn
import Derived.Test.YtifjnjjmfnhkaaaDoorRef
import Derived.Deep.CutBlock
namespace Go.Proofs.YtifjnjjmfnhkaaaDoor
open Go.RowKit
set_option linter.unusedVariables false

theorem cb_one (xs : List Int) : cb xs ++ [.int .u8 0] = cb (xs ++ [0]) := (cb_snoc xs 0).symm ▸ rfl
theorem bk_byte {o : Opv} : ∀ x ∈ encs (nums o), 0 ≤ x ∧ x ≤ 255 := encs_byte _
theorem bk_pos (o : Opv) : 1 ≤ (encs (nums o)).length := by
  have h : nums o = o.id :: (nums o).tail := rfl
  rw [h]
  show 1 ≤ (enc (zz o.id).toNat ++ encs (nums o).tail).length
  rw [List.length_append]
  have := enc_pos (zz o.id).toNat
  omega
theorem ex_word (T : List UInt8) (f k : Nat) : (#[Value.string ((⟨T.toArray⟩ : ByteArray).extract f k)] : Array Value) = (wdF ((T.take k).drop f)).toArray := by
  have h : ((⟨T.toArray⟩ : ByteArray).extract f k) = ⟨((T.take k).drop f).toArray⟩ := by
    apply ByteArray.ext
    apply Array.toList_inj.1
    rw [Lib.extract_data]
    simp [List.drop_take]
  rw [h]; rfl
/-- what is split off so far. -/
def BkSp25 (T : List UInt8) (w0 : World) (v fv i : Value) (w : World) : Prop :=
  ∃ (k f : Nat) (ws : List (List UInt8)), k ≤ T.length + 1 ∧ i = .int .i64 (k : Int) ∧ fv = .int .i64 (f : Int) ∧ f ≤ k ∧ ws.length ≤ k ∧ OwnS w0.heap.size w v ws ∧ Below w0.heap.size w0 w ∧
    ((k ≤ T.length ∧ spl [] T = ws ++ spl ((T.take k).drop f) (T.drop k)) ∨ (k = T.length + 1 ∧ ws = spl [] T))
theorem bk_last {T : List UInt8} {ws : List (List UInt8)} {f : Nat} (h : spl [] T = ws ++ spl ((T.take T.length).drop f) (T.drop T.length)) : ws ++ [(T.take T.length).drop f] = spl [] T := by
  rw [h, List.drop_length]; rfl
theorem bk_cut {T : List UInt8} {ws : List (List UInt8)} {f k : Nat} (hk : k < T.length) (hc : T[k] = 32) (h : spl [] T = ws ++ spl ((T.take k).drop f) (T.drop k)) : spl [] T = (ws ++ [(T.take k).drop f]) ++ spl ((T.take (k + 1)).drop (k + 1)) (T.drop (k + 1)) := by
  rw [h, List.drop_eq_getElem_cons hk, hc, show spl ((T.take k).drop f) (32 :: T.drop (k + 1)) = ((T.take k).drop f) :: spl [] (T.drop (k + 1)) from if_pos rfl, show (T.take (k + 1)).drop (k + 1) = [] from List.drop_eq_nil_of_le (by rw [List.length_take]; omega)]
  simp
theorem bk_go {T : List UInt8} {ws : List (List UInt8)} {f k : Nat} (hk : k < T.length) (hf : f ≤ k) (hc : T[k] ≠ 32) (h : spl [] T = ws ++ spl ((T.take k).drop f) (T.drop k)) : spl [] T = ws ++ spl ((T.take (k + 1)).drop f) (T.drop (k + 1)) := by
  have e : (T.take (k + 1)).drop f = (T.take k).drop f ++ [T[k]] := by
    rw [List.take_succ_eq_append_getElem hk, List.drop_append_of_le_length (by rw [List.length_take]; omega)]
  rw [h, List.drop_eq_getElem_cons hk, e]
  rw [show spl ((T.take k).drop f) (T[k] :: T.drop (k + 1)) = spl ((T.take k).drop f ++ [T[k]]) (T.drop (k + 1)) from if_neg hc]
set_option maxRecDepth 100000 in
set_option maxHeartbeats 6400000 in
theorem walk_opBack (o p : Opv) (cut : Int) (A : Nat → Addr) (w : World) (hob : OpBig o) (hpb : OpBig p) (b0 : -9223372036854775808 ≤ cut) (c0 : cut ≤ 9223372036854775807) (hS : Sents w A) (hT : Lib.TabIs Tryd.prog w "internal/strconv.uint64pow10" .u64 Lib.pow10Tab) (hY : SynOn w) (hR : RowsOn w) :
    Calls Tryd.prog 3 #[opV o, opV p, .int .i64 cut] w fun e w' => e = .returned (.bool true) ∧ Below w.heap.size w w' := by
  have hE : OpEnv A w := ⟨hS, hR, hT⟩
  have hF := hidden (fun W (hb : Below w.heap.size w W) => law25_first A W (hE.below hb (Nat.le_refl _)))
  have hEb := hidden (fun W (hb : Below w.heap.size w W) => hE.below hb (Nat.le_refl _))
  have hYb := hidden (fun W (hb : Below w.heap.size w W) => hY.below hb (Nat.le_refl _))
  have hw0 := hidden (((Below.refl w.heap.size w).alloc (Nat.le_refl _) (opO o)).alloc (by simp) (opO p))
  have hro := hidden (show OpAt ((w.alloc (opO o)).alloc (opO p)) w.heap.size o from ⟨(Below.heap_alloc (w.alloc (opO o)) (opO p) w.heap.size (by simp)).trans (heap_alloc_new w _)⟩)
  have hrp := hidden (show OpAt ((w.alloc (opO o)).alloc (opO p)) (w.heap.size + 1) p from ⟨by have h := heap_alloc_new (w.alloc (opO o)) (opO p); rw [show (w.alloc (opO o)).heap.size = w.heap.size + 1 by simp] at h; exact h⟩)
  clear hE hS hT hR hY hob hpb
  go_enter Tryd.func3, Tryd.ntmps3
  go_wp2_with fail
  refine (hF.out _ hw0.out).mono ?_
  rintro e w1 ⟨rfl, hb1⟩
  replace hro := hidden (hro.out.below hb1)
  replace hrp := hidden (hrp.out.below hb1)
  replace hw0 := hidden (hw0.out.trans (hb1.mono hw0.out.size))
  obtain ⟨q0, q1, q2, q3, q4, q5, q6, q7⟩ := hro.out.cells
  clear hb1 hF
  by_cases hg : opE o = 0
  · have hok := hidden (op_fine.1 hg)
    go_wp2_with fail
    refine (opBytes_good A o w1 (hEb.out _ hw0.out) hg).mono ?_
    rintro e w2 ⟨v2, rfl, hown, hb2⟩
    replace hro := hidden (hro.out.below hb2)
    replace hrp := hidden (hrp.out.below hb2)
    have hb0 := hidden (hw0.out.trans (hb2.mono hw0.out.size))
    have hx := hidden (reads_of_own (k := .u8) hown)
    obtain ⟨a2, c2, hv⟩ := reads_slice hx.out
    rw [hv] at hx
    rw [hv]
    clear q0 q1 q2 q3 q4 q5 q6 q7 hb2 hw0 hown hv
    have hby := hidden (@bk_byte o)
    have hL := hidden (encs_short hok.out)
    have hbk := hidden (rp_back hok.out)
    have hmo := hidden (rp_more hok.out)
    have hle := hidden (fun n => @rp_less o hok.out n)
    have hpos := hidden (bk_pos o)
    have hxc := hidden (reads_cap hx.out)
    have hR1 := hidden (fun (v : Value) (W : World) (hE : OpEnv A W) (hX : Reads .u8 W v (encs (nums o))) => read_any25 A v (encs (nums o)) W hE hX hby.out)
    generalize hXe : encs (nums o) = X at *
    replace hXe := hidden hXe
    go_wp2_with fail
    refine (hR1.out _ _ (hEb.out _ hb0.out) hx.out).mono ?_
    rintro e w3 ⟨ev, rfl, hev, hb3⟩
    obtain rfl := hev.nil (by rw [hbk.out.1])
    rw [hbk.out.2]
    replace hro := hidden (hro.out.below hb3)
    replace hrp := hidden (hrp.out.below hb3)
    replace hx := hidden (hx.out.below hb3 (Nat.le_refl _))
    replace hb0 := hidden (hb0.out.trans (hb3.mono hb0.out.size))
    clear hev hb3
    go_wp2_with fail
    have hrx := hidden (show OpAt (w3.alloc (opO o)) w3.heap.size o from ⟨heap_alloc_new w3 _⟩)
    have hx2 := hidden (hx.out.below ((Below.refl w3.heap.size w3).alloc (Nat.le_refl _) (opO o)) (Nat.le_refl _))
    replace hro := hidden (hro.out.below ((Below.refl w3.heap.size w3).alloc (Nat.le_refl _) (opO o)))
    replace hrp := hidden (hrp.out.below ((Below.refl w3.heap.size w3).alloc (Nat.le_refl _) (opO o)))
    replace hb0 := hidden (hb0.out.alloc hb0.out.size (opO o))
    refine (number_any cut (X.length : Int) (w3.alloc (opO o)) b0 c0 (by have := hpos.out; omega) (by have := hL.out; omega)).mono ?_
    rintro e w4 ⟨rfl, rfl⟩
    clear hx
    generalize w3.alloc (opO o) = W at *
    generalize w3.heap.size = g3 at *
    obtain ⟨N, hN⟩ : ∃ N : Nat, cut % (X.length : Int) = (N : Int) := ⟨(cut % (X.length : Int)).toNat, by have := Int.emod_nonneg cut (show (X.length : Int) ≠ 0 by have := hpos.out; omega); omega⟩
    have hNl := hidden (show N < X.length by have := Int.emod_lt_of_pos cut (show 0 < (X.length : Int) by have := hpos.out; omega); omega)
    rw [hN]
    have hNc : (N : Int) ≤ (c2 : Int) := by have := hNl.out; have := hxc.out; omega
    clear hN b0 c0
    go_wp2_with fail
    refine (read_any25 A _ (X.take N) W (hEb.out _ hb0.out) (reads_take hx2.out (Nat.le_of_lt hNl.out)) (fun x hx => hby.out x (List.mem_of_mem_take hx))).mono ?_
    rintro e w5 ⟨ev, rfl, hev, hb5⟩
    obtain ⟨tg, ag, rfl⟩ := hev.some (hle.out N hNl.out)
    replace hro := hidden (hro.out.below hb5)
    replace hrp := hidden (hrp.out.below hb5)
    replace hrx := hidden (hrx.out.below hb5)
    replace hx2 := hidden (hx2.out.below hb5 (Nat.le_refl _))
    replace hb0 := hidden (hb0.out.trans (hb5.mono hb0.out.size))
    clear hev hb5 hle hNc hNl
    generalize rpR (X.take N) = o5 at *
    go_wp2_with fail
    refine (bytes_any _ X (w5.alloc (opO o5)) (hx2.out.below ((Below.refl w5.heap.size w5).alloc (Nat.le_refl _) (opO o5)) (Nat.le_refl _)) (by have := hL.out; omega)).mono ?_
    rintro e w6 ⟨v6, rfl, hown6, hb6⟩
    have hB6 : (w5.alloc (opO o5)).heap.size ≤ w6.heap.size := hb6.size
    have h5 := (Below.refl w5.heap.size w5).alloc (Nat.le_refl _) (opO o5)
    have h5s : w5.heap.size ≤ (w5.alloc (opO o5)).heap.size := h5.size
    generalize hB : (w5.alloc (opO o5)).heap.size = B6 at *
    replace hB := hidden hB
    replace hb6 := hidden hb6
    replace h5 := hidden h5
    go_wp2_with (at_builtin; refine wpList_app1 rfl _ _ 25 rfl 5 Tryd.underlying25 infoB rfl (by decide) B6 _ _ _ rfl hown6 _ rfl rfl ?_ hB6 ?_)
    case _ => have := hL.out; omega
    intro v7 w7 hown7 hb7
    have h57 := h5.out.trans ((hb6.out.trans hb7).mono h5s)
    replace hro := hidden (hro.out.below h57)
    replace hrp := hidden (hrp.out.below h57)
    replace hrx := hidden (hrx.out.below h57)
    replace hx2 := hidden (hx2.out.below h57 (Nat.le_refl _))
    replace hb0 := hidden (hb0.out.trans (h57.mono hb0.out.size))
    have hr7 := hidden (reads_of_own (k := .u8) (xs := X ++ [0]) (n := X.length + 1) (by rw [List.map_append]; exact hown7))
    clear hB6 h5s hB hb6 h5 hown6 hown7 hb7 h57
    have hby0 := hidden (show ∀ x ∈ X ++ [0], 0 ≤ x ∧ x ≤ 255 from fun x hx => (List.mem_append.1 hx).elim (hby.out x) (fun h => by rw [List.mem_singleton.1 h]; decide))
    go_wp2_with fail
    refine (read_any25 A _ (X ++ [0]) w7 (hEb.out _ hb0.out) hr7.out hby0.out).mono ?_
    rintro e w8 ⟨ev, rfl, hev, hb8⟩
    rw [hmo.out] at hev
    obtain ⟨tg2, ag2, hev2⟩ := hev.some (by show (102 : Int) ≠ 0; decide)
    replace hro := hidden (hro.out.below hb8)
    replace hrp := hidden (hrp.out.below hb8)
    replace hrx := hidden (hrx.out.below hb8)
    replace hx2 := hidden (hx2.out.below hb8 (Nat.le_refl _))
    replace hb0 := hidden (hb0.out.trans (hb8.mono hb0.out.size))
    replace hev := hidden (hev.below (Below.refl _ _))
    clear hb8 hr7 hby0 hmo
    generalize rpR (X ++ [0]) = o8 at *
    subst hev2
    obtain ⟨q0, q1, q2, q3, q4, q5, q6, q7⟩ := (hro.out.below ((Below.refl w8.heap.size w8).alloc (Nat.le_refl _) (opO o8))).cells
    unfold opO at q0 q1 q2 q3 q4 q5 q6 q7
    go_wp2_with fail
    clear q0 q1 q2 q3 q4 q5 q6 q7
    have h9 := (Below.refl w8.heap.size w8).alloc (Nat.le_refl _) (opO o8)
    refine (opText_good A o (w8.alloc (opO o8)) ((hEb.out _ hb0.out).below h9 (Nat.le_refl _)) hg).mono ?_
    rintro e w10 ⟨rfl, hb10⟩
    replace hb10 : Below w8.heap.size w8 w10 := h9.trans (hb10.mono h9.size)
    replace hro := hidden (hro.out.below hb10)
    replace hrp := hidden (hrp.out.below hb10)
    replace hrx := hidden (hrx.out.below hb10)
    replace hx2 := hidden (hx2.out.below hb10 (Nat.le_refl _))
    replace hb0 := hidden (hb0.out.trans (hb10.mono hb0.out.size))
    replace hev := hidden (hev.out.below hb10)
    clear hb10 h9
    generalize w8.heap.size = g8 at *
    go_wp2_with fail
    have hTl := hidden (txS_len hok.out)
    have hTs := hidden (tx_split hok.out)
    have hTu := hidden (show (⟨(txS o).toArray⟩ : ByteArray).size = (txS o).length by simp [ByteArray.size])
    generalize hTe : txS o = T at *
    replace hTe := hidden hTe
    have hst := hidden (show BkSp25 T w10 (.slice none 0 0) (.int .i64 0) (.int .i64 0) w10 from ⟨0, 0, [], Nat.zero_le _, rfl, rfl, Nat.le_refl _, Nat.zero_le _, OwnR.nil _ _ _, Below.refl _ _, .inl ⟨Nat.zero_le _, by simp⟩⟩)
    go_loopw [17, 18, 19] (fun v fv i wr => BkSp25 T w10 v fv i wr) (fun _ _ i _ => T.length + 1 - (intOf i).toNat)
    case atStart => exact hst.out
    case round =>
      rename_i u17 _ _
      clear hst
      obtain ⟨k, f, ws, hk, rfl, rfl, hfk, hwl, hW, hlow, hrest⟩ := hrel
      have hTu2 := hTu.out
      have hTl2 := hTl.out
      have hws := hidden (show ws.length ≤ 1000000 by omega)
      have hB := hidden (show w10.heap.size ≤ wr.heap.size from hlow.size)
      replace hW := hidden hW
      replace hlow := hidden hlow
      have hfI : (f : Int) ≤ (k : Int) := by omega
      rcases hrest with ⟨hkL, hsp⟩ | ⟨rfl, rfl⟩
      · by_cases hkE : k = T.length
        · subst hkE
          have hsp2 := hidden (bk_last hsp)
          clear hsp hkL
          go_wp2_with (at_builtin; refine wpList_appR1K rfl _ _ 35 rfl wdF_len wdF_one (by decide) 9 Tryd.underlying35 infoWd rfl (by decide) w10.heap.size _ ws rfl hW.out ((T.take T.length).drop f) _ (ex_word T f T.length) _ rfl (by first | rfl | simp) hws.out hB.out ?_)
          intro v8 w8 hW8 hb8 ht8
          replace hW8 := hidden hW8
          have hlow8 := hidden (hlow.out.trans hb8)
          clear hW hlow hb8 ht8
          go_wp2
          go_roundw
          case rel => exact ⟨T.length + 1, T.length + 1, _, Nat.le_refl _, by go_num, by go_num, Nat.le_refl _, by simp; omega, hW8.out, hlow8.out, .inr ⟨rfl, by have h := hsp2.out; rw [List.take_length] at h; exact h⟩⟩
          case measure => simp [intOf] <;> omega
        · have hlt : k < T.length := by omega
          have hkI : (k : Int) < (T.length : Int) := by omega
          by_cases h32 : T[k] = 32
          · have hsp2 := hidden (bk_cut hlt h32 hsp)
            have hc : ((T[k].toNat : Int) == 32) = true := by rw [h32]; rfl
            have hc2 : ((((⟨T.toArray⟩ : ByteArray)[k]'(by rw [hTu2]; exact hlt)).toNat : Int) == 32) = true := hc
            clear hsp hkL h32 hkE
            go_wp2_with (at_builtin; refine wpList_appR1K rfl _ _ 35 rfl wdF_len wdF_one (by decide) 9 Tryd.underlying35 infoWd rfl (by decide) w10.heap.size _ ws rfl hW.out ((T.take k).drop f) _ (ex_word T f k) _ rfl (by first | rfl | simp) hws.out hB.out ?_)
            intro v8 w8 hW8 hb8 ht8
            replace hW8 := hidden hW8
            have hlow8 := hidden (hlow.out.trans hb8)
            clear hW hlow hb8 ht8
            go_wp2
            go_roundw
            case rel => exact ⟨k + 1, k + 1, _, by omega, by go_num, by go_num, Nat.le_refl _, by simp; omega, hW8.out, hlow8.out, .inl ⟨hlt, hsp2.out⟩⟩
            case measure => simp [intOf] <;> omega
          · have hsp2 := hidden (bk_go hlt hfk h32 hsp)
            have hc : ((T[k].toNat : Int) == 32) = false := by
              rw [beq_eq_false_iff_ne]
              exact fun e => h32 (UInt8.toNat_inj.1 (by rw [show (32 : UInt8).toNat = 32 from rfl]; omega))
            have hc2 : ((((⟨T.toArray⟩ : ByteArray)[k]'(by rw [hTu2]; exact hlt)).toNat : Int) == 32) = false := hc
            clear hsp hkL h32 hkE
            go_wp2
            go_roundw
            case rel => exact ⟨k + 1, f, ws, by omega, by go_num, rfl, by omega, by omega, hW.out, hlow.out, .inl ⟨hlt, hsp2.out⟩⟩
            case measure => simp [intOf] <;> omega
      · have hWd := hidden (show Wds wr u17 (txW o) from by rw [← hTs.out]; exact OwnR.row wdF_len hW.out)
        have hlo := hlow.out
        replace hro := hidden (hro.out.below hlo)
        replace hrp := hidden (hrp.out.below hlo)
        replace hrx := hidden (hrx.out.below hlo)
        replace hx2 := hidden (hx2.out.below hlo (Nat.le_refl _))
        replace hev := hidden (hev.out.below hlo)
        replace hb0 := hidden (hb0.out.trans (hlo.mono hb0.out.size))
        clear hlow hlo hW hws hB hfI hfk hk hwl
        have hpo := hidden (show paC (txW o) = 0 ∧ paR (txW o) = o from ⟨(pa_back hok.out).1, by unfold paR; rw [if_pos (pa_back hok.out).1]; exact (pa_back hok.out).2⟩)
        have hTI : ¬ ((T.length + 1 : Nat) : Int) ≤ (T.length : Int) := by omega
        go_wp2_with fail
        refine (parse_any25 A u17 (txW o) wr (hEb.out _ hb0.out) (hYb.out _ hb0.out) hWd.out).mono ?_
        rintro e w11 ⟨rfl, hb11⟩
        rw [hpo.out.1, hpo.out.2, show errOf A 0 = .nilIface from rfl]
        replace hro := hidden (hro.out.below hb11)
        replace hrp := hidden (hrp.out.below hb11)
        replace hrx := hidden (hrx.out.below hb11)
        replace hx2 := hidden (hx2.out.below hb11 (Nat.le_refl _))
        replace hev := hidden (hev.out.below hb11)
        replace hb0 := hidden (hb0.out.trans (hb11.mono hb0.out.size))
        clear hb11 hWd hpo hTI
        go_wp2_with fail
        have hry := hidden (show OpAt (w11.alloc (opO o)) w11.heap.size o from ⟨heap_alloc_new w11 _⟩)
        have hal := (Below.refl w11.heap.size w11).alloc (Nat.le_refl _) (opO o)
        replace hro := hidden (hro.out.below hal)
        replace hrp := hidden (hrp.out.below hal)
        replace hrx := hidden (hrx.out.below hal)
        replace hx2 := hidden (hx2.out.below hal (Nat.le_refl _))
        replace hev := hidden (hev.out.below hal)
        replace hb0 := hidden (hb0.out.trans (hal.mono hb0.out.size))
        clear hal
        refine (fault_placed 102 (X.length : Int) (w11.alloc (opO o)) (by decide)).mono ?_
        rintro e w12 ⟨rfl, hb12⟩
        replace hro := hidden (hro.out.below hb12)
        replace hrp := hidden (hrp.out.below hb12)
        replace hrx := hidden (hrx.out.below hb12)
        replace hry := hidden (hry.out.below hb12)
        replace hx2 := hidden (hx2.out.below hb12 (Nat.le_refl _))
        replace hev := hidden (hev.out.below hb12)
        replace hb0 := hidden (hb0.out.trans (hb12.mono hb0.out.size))
        clear hb12
        generalize w11.heap.size = g11 at *
        go_wp2_with fail
        refine (same_any _ _ _ _ _ _ _ w12 (hev.out.fault (hEb.out _ hb0.out).sents)).mono ?_
        rintro e w13 ⟨rfl, hb13⟩
        rw [show ((102 : Int) == 102 && true == true && (X.length : Int) == (X.length : Int)) = true by simp]
        replace hro := hidden (hro.out.below hb13)
        replace hrp := hidden (hrp.out.below hb13)
        replace hrx := hidden (hrx.out.below hb13)
        replace hry := hidden (hry.out.below hb13)
        replace hx2 := hidden (hx2.out.below hb13 (Nat.le_refl _))
        replace hb0 := hidden (hb0.out.trans (hb13.mono hb0.out.size))
        clear hb13 hev
        obtain ⟨q0, q1, q2, q3, q4, q5, q6, q7⟩ := hro.out.cells
        obtain ⟨r0, r1, r2, r3, r4, r5, r6, r7⟩ := hrx.out.cells
        go_wp2_with fail
        refine (sameOp_any o o w13).mono ?_
        rintro e w14 ⟨rfl, hb14⟩
        rw [sameO_self]
        clear q0 q1 q2 q3 q4 q5 q6 q7 r0 r1 r2 r3 r4 r5 r6 r7
        replace hro := hidden (hro.out.below hb14)
        replace hrp := hidden (hrp.out.below hb14)
        replace hry := hidden (hry.out.below hb14)
        replace hx2 := hidden (hx2.out.below hb14 (Nat.le_refl _))
        replace hb0 := hidden (hb0.out.trans (hb14.mono hb0.out.size))
        clear hb14 hrx
        obtain ⟨q0, q1, q2, q3, q4, q5, q6, q7⟩ := hro.out.cells
        obtain ⟨r0, r1, r2, r3, r4, r5, r6, r7⟩ := hry.out.cells
        go_wp2_with fail
        refine (sameOp_any o o w14).mono ?_
        rintro e w15 ⟨rfl, hb15⟩
        rw [sameO_self]
        clear q0 q1 q2 q3 q4 q5 q6 q7 r0 r1 r2 r3 r4 r5 r6 r7
        replace hro := hidden (hro.out.below hb15)
        replace hrp := hidden (hrp.out.below hb15)
        replace hx2 := hidden (hx2.out.below hb15 (Nat.le_refl _))
        replace hb0 := hidden (hb0.out.trans (hb15.mono hb0.out.size))
        clear hb15 hry
        obtain ⟨q0, q1, q2, q3, q4, q5, q6, q7⟩ := hrp.out.cells
        by_cases hp : opE p = 0
        · go_wp2_with fail
          refine (opBytes_good A p w15 (hEb.out _ hb0.out) hp).mono ?_
          rintro e w16 ⟨v16, rfl, hown, hb16⟩
          clear q0 q1 q2 q3 q4 q5 q6 q7
          replace hro := hidden (hro.out.below hb16)
          replace hrp := hidden (hrp.out.below hb16)
          replace hx2 := hidden (hx2.out.below hb16 (Nat.le_refl _))
          replace hb0 := hidden (hb0.out.trans (hb16.mono hb0.out.size))
          have hy := hidden (reads_of_own (k := .u8) hown)
          have hokp := hidden (op_fine.1 hp)
          have hsm := hidden (show (sameO o p = true ∧ decide (X = encs (nums p)) = true ∧ (txS p == T) = true) ∨ (sameO o p = false ∧ decide (X = encs (nums p)) = false ∧ (txS p == T) = false) from by
            rw [← hXe.out, ← hTe.out]
            by_cases h : o = p
            · subst h
              exact .inl ⟨sameO_self o, decide_eq_true rfl, by rw [beq_iff_eq]⟩
            · refine .inr ⟨by rw [Bool.eq_false_iff]; exact fun e => h ((sameO_iff o p).1 e), decide_eq_false (fun e => h (encs_inj hok.out hokp.out e)), by rw [beq_eq_false_iff_ne]; exact fun e => h (tx_inj hokp.out hok.out e).symm⟩)
          clear hb16 hown
          generalize hYe : encs (nums p) = Yb at *
          obtain ⟨q0, q1, q2, q3, q4, q5, q6, q7⟩ := hro.out.cells
          obtain ⟨r0, r1, r2, r3, r4, r5, r6, r7⟩ := hrp.out.cells
          go_wp2_with fail
          refine (sameOp_any o p w16).mono ?_
          rintro e w17 ⟨rfl, hb17⟩
          clear q0 q1 q2 q3 q4 q5 q6 q7 r0 r1 r2 r3 r4 r5 r6 r7
          replace hrp := hidden (hrp.out.below hb17)
          replace hx2 := hidden (hx2.out.below hb17 (Nat.le_refl _))
          replace hy := hidden (hy.out.below hb17 (Nat.le_refl _))
          replace hb0 := hidden (hb0.out.trans (hb17.mono hb0.out.size))
          clear hb17 hro hYe
          go_wp2_with fail
          refine (sameBytes_any _ _ X Yb w17 hx2.out hy.out (by have := hL.out; omega)).mono ?_
          rintro e w18 ⟨rfl, m, rfl⟩
          replace hb0 := hidden (below_drewN (m := m) hb0.out)
          replace hrp := hidden (show OpAt (w17.drewN m) (w.heap.size + 1) p from ⟨hrp.out.row⟩)
          generalize w17.drewN m = w18 at *
          clear hx2 hy
          rcases hsm.out with ⟨h1, h2, h3⟩ | ⟨h1, h2, h3⟩
          · rw [h1, h2]
            obtain ⟨r0, r1, r2, r3, r4, r5, r6, r7⟩ := hrp.out.cells
            go_wp2_with fail
            refine (opText_good A p w18 (hEb.out _ hb0.out) hp).mono ?_
            rintro e w19 ⟨rfl, hb19⟩
            replace hb0 := hidden (hb0.out.trans (hb19.mono hb0.out.size))
            clear hb19 hrp r0 r1 r2 r3 r4 r5 r6 r7
            go_wp2
            go_ret
            exact ⟨by first | rfl | simp [h3], hb0.out⟩
          · rw [h1, h2]
            obtain ⟨r0, r1, r2, r3, r4, r5, r6, r7⟩ := hrp.out.cells
            go_wp2_with fail
            refine (opText_good A p w18 (hEb.out _ hb0.out) hp).mono ?_
            rintro e w19 ⟨rfl, hb19⟩
            replace hb0 := hidden (hb0.out.trans (hb19.mono hb0.out.size))
            clear hb19 hrp r0 r1 r2 r3 r4 r5 r6 r7
            go_wp2
            go_ret
            exact ⟨by first | rfl | simp [h3], hb0.out⟩
        · go_wp2_with fail
          refine (opBytes_bad A p w15 (hEb.out _ hb0.out) hp).mono ?_
          rintro e w16 ⟨rfl, hb16⟩
          obtain ⟨t, ha⟩ := errOf_bad25 A hp
          rw [ha]
          replace hb0 := hidden (hb0.out.trans (hb16.mono hb0.out.size))
          clear hb16 hro hrp hx2 q0 q1 q2 q3 q4 q5 q6 q7
          go_wp2
          go_ret
          exact ⟨rfl, hb0.out⟩
  · go_wp2_with fail
    refine (opBytes_bad A o w1 (hEb.out _ hw0.out) hg).mono ?_
    rintro e w2 ⟨rfl, hb2⟩
    obtain ⟨t, ha⟩ := errOf_bad25 A hg
    rw [ha]
    replace hw0 := hidden (hw0.out.trans (hb2.mono hw0.out.size))
    clear hb2 hro hrp q0 q1 q2 q3 q4 q5 q6 q7
    go_wp2
    go_ret
    exact ⟨rfl, hw0.out⟩
end Go.Proofs.YtifjnjjmfnhkaaaDoor
