/-
  The document's own operations (pledgeref26): Text.
-/
import Derived.Test.YtongpgnnhpbcpaaGreatDoorOpRef1
import Derived.Test.YtongpgnnhpbcpaaGreatDoorOp5
import Derived.Deep.CutBlock
import Derived.Laws.Concat
namespace Go.Proofs.YtongpgnnhpbcpaaGreatDoor
open Go.RowKit
set_option linter.unusedVariables false

theorem join_snoc25 (l : List (List UInt8)) (x sep : List UInt8) (h : l ≠ []) : Lib.join (l ++ [x]) sep = Lib.join l sep ++ (sep ++ x) := by
  cases l with
  | nil => exact absurd rfl h
  | cons a r =>
    rw [List.cons_append, Lib.join_cons, Lib.join_cons]
    simp [Lib.joinTail]
/-- two strings put together, as a rule over letters. -/
theorem str_add25 (P : Program) (a b : List UInt8) (x y : ByteArray) (hx : (⟨a.toArray⟩ : ByteArray) = x) (hy : (⟨b.toArray⟩ : ByteArray) = y) (h : a.length + b.length ≤ 100000) :
    ∃ s : ByteArray, (∀ W : World, (Op.stringOp .add x y).run P W = .ok (.string s) W) ∧ (⟨(a ++ b).toArray⟩ : ByteArray) = s := by
  subst hx hy
  refine ⟨_, fun W => ?_, rfl⟩
  have := run_string_add_lists (P := P) W a b (by omega) (by omega)
  exact this
theorem txW_take25 (o : Opv) (k : Nat) : (txW o).take (2 + k) ≠ [] := by
  unfold txW
  rw [show 2 + k = k + 1 + 1 by omega]
  simp
theorem join_next25 {o : Opv} {K k : Nat} (hK : o.kd = (K : Int)) (hk : k < (useL K).length) : Lib.join ((txW o).take (2 + (k + 1))) [32] = Lib.join ((txW o).take (2 + k)) [32] ++ [32] ++ Lib.itoa (fo o ((useL K).getD k 0)) := by
  rw [txW_next hK hk, join_snoc25 _ _ _ (txW_take25 o k), List.append_assoc]
theorem join_two25 {o : Opv} {K : Nat} (hK : o.kd = (K : Int)) (h1 : 1 ≤ K) (h2 : K ≤ 16) : Lib.join ((txW o).take (2 + 0)) [32] = Lib.itoa o.id ++ [32] ++ nmV o.kd := by
  rw [← txW_two hK h1 h2, show [Lib.itoa o.id, nmV o.kd] = [Lib.itoa o.id] ++ [nmV o.kd] from rfl, join_snoc25 _ _ _ (by simp), Lib.join_one, List.append_assoc]
theorem join_short25 {o : Opv} (h : OpOk o) (k : Nat) : (Lib.join ((txW o).take (2 + k)) [32]).length ≤ 200 := by
  have hw := lens_le (ws := (txW o).take (2 + k)) (n := 18) (fun w hw => tx_word h w (List.mem_of_mem_take hw))
  have hl := tx_len h
  have ht : ((txW o).take (2 + k)).length ≤ 7 := by rw [List.length_take]; omega
  have hn := txW_take25 o k
  cases hc : (txW o).take (2 + k) with
  | nil => exact absurd hc hn
  | cons x r =>
    rw [hc] at hw ht
    rw [Lib.join_length]
    simp only [List.length_cons, List.length_nil] at hw ht ⊢
    omega
/-- the rounds of Text. -/
def RtxRel (o : Opv) (w0 : World) (v i : Value) (w : World) : Prop := ∃ k : Nat, k ≤ (useL o.kd.toNat).length ∧ i = .int .i64 (k : Int) ∧ v = bsV (Lib.join ((txW o).take (2 + k)) [32]) ∧ Below w0.heap.size w0 w
set_option maxRecDepth 100000 in
set_option maxHeartbeats 3200000 in
theorem refText25 (A : Nat → Addr) (o : Opv) (w : World) (hE : OpEnv A w) (hok : OpOk o) : Calls Tryz.prog 14 #[opV o] w fun e w' => e = .returned (bsV (txS o)) ∧ Below w.heap.size w w' := by
  have hw1 := hidden (show Below w.heap.size w (w.alloc (opO o)) from (Below.refl _ _).alloc (Nat.le_refl _) _)
  have hro := hidden (show OpAt (w.alloc (opO o)) w.heap.size o from ⟨heap_alloc_new w _⟩)
  have hsz := hidden (show w.heap.size ≤ (w.alloc (opO o)).heap.size from hw1.out.size)
  obtain ⟨K, hK⟩ : ∃ K : Nat, Hid (o.kd = (K : Int) ∧ 1 ≤ K ∧ K ≤ 16) := ⟨o.kd.toNat, hidden (by have := hok.kd; omega)⟩
  have hKN := hidden (show o.kd.toNat = K by have := hK.out.1; omega)
  have hEt := hidden (fun W (hb : Below w.heap.size w W) => (hE.below hb (Nat.le_refl _)).tab)
  obtain ⟨x1, hx1⟩ : ∃ x, (⟨(Lib.itoa o.id).toArray⟩ : ByteArray) = x := ⟨_, rfl⟩
  obtain ⟨x2, hx2⟩ : ∃ x, (⟨(nmV o.kd).toArray⟩ : ByteArray) = x := ⟨_, rfl⟩
  have hl1 : (Lib.itoa o.id).length ≤ 18 := tx_word hok _ (by simp [txW])
  have hl2 : (nmV o.kd).length ≤ 18 := by rw [nmV_in hK.out.1 hK.out.2.1 hK.out.2.2]; exact Nat.le_trans (nm_word hK.out.2.2).2.1 (by decide)
  obtain ⟨y1, hA1, hy1⟩ := str_add25 Tryz.prog (Lib.itoa o.id) [32] x1 ⟨#[32]⟩ hx1 rfl (by simp; omega)
  obtain ⟨y2, hA2, hy2⟩ := str_add25 Tryz.prog (Lib.itoa o.id ++ [32]) (nmV o.kd) y1 x2 hy1 hx2 (by simp; omega)
  have hst := hidden (show (Value.string y2) = bsV (Lib.join ((txW o).take (2 + 0)) [32]) by rw [join_two25 hK.out.1 hK.out.2.1 hK.out.2.2, ← hy2])
  have hD := hidden (fun W (hb : Below w.heap.size w W) => format_any25 o.id hok.big.ids.1.1 hok.big.ids.1.2 W (hEt.out W hb))
  have hN := hidden (fun W => refName_any o.kd W)
  simp only [bsV] at hD hN
  rw [hx1] at hD
  rw [hx2] at hN
  have hU := hidden (fun W => refUses_any o.kd W)
  rw [show usV o.kd = useS K from by rw [hK.out.1]; exact usV_in hK.out.2.1 hK.out.2.2] at hU
  have hUl := hidden (show (useS K).length = (useL K).length by simp [useS])
  have hul5 := hidden (use_len hK.out.2.2).1
  have hFd := hidden (fun k hk W => refField_any o k hk W)
  have hFb := hidden (fun k => hok.big.fld k)
  have hnx := hidden (fun k (hk : k < (useL K).length) => join_next25 hK.out.1 hk)
  have hsh := hidden (fun k => join_short25 hok k)
  have hit := hidden (fun k (hk : k < (useL K).length) => show (Lib.itoa (fo o ((useL K).getD k 0))).length ≤ 18 from itoa_short (hok.small _ (pl25_at hk).2).1 (by have := (hok.small _ (pl25_at hk).2).2; omega))
  have hlet := hidden (fun k (hk : k < (useL K).length) => show ∀ h, (useS K)[k]'h = letL.getD ((useL K).getD k 0) 0 from fun h => by simp [useS, List.getD_eq_getElem?_getD, List.getElem?_eq_getElem hk])
  have hall := hidden (show (txW o).take (2 + (useL K).length) = txW o from List.take_of_length_le (by rw [txW_len hK.out.1]; exact Nat.le_refl _))
  have hpl := hidden (fun k (hk : k < (useL K).length) => (pl25_at hk).2)
  obtain ⟨q0, q1, q2, q3, q4, q5, q6, q7⟩ := hro.out.cells
  clear hE hl1 hl2 hx1 hx2 hy1 hy2 hok
  go_enter Tryz.func14, Tryz.ntmps14
  go_upto_region 1 with (fail)
  generalize w.alloc (opO o) = w1 at *
  go_cut [3] (fun v wx => v = .string y2 ∧ Below w1.heap.size w1 wx)
  case first =>
    go_region_with (first
      | (go_at_call 33; refine (hD.out _ hw1.out.drew).mono ?_; rintro e' w3 ⟨rfl, hb3⟩; have hr3 := hidden ((show OpAt w1.drew _ o from ⟨hro.out.row⟩).below hb3); obtain ⟨d0, d1, d2, d3, d4, d5, d6, d7⟩ := hr3.out.cells; have hbq := hidden ((Below.refl w1.heap.size w1).drew.trans hb3))
      | (go_at_call 10; refine (hN.out _).mono ?_; rintro e' w4 ⟨rfl, hb4⟩; have hbr := hidden (hbq.out.trans (hb4.mono hbq.out.size))))
    all_goals (go_wp2_with fail; go_meet; exact ⟨rfl, hbr.out⟩)
  case rest =>
  obtain ⟨rfl, hb⟩ := hcut
  have hst2 := hidden (show RtxRel o w1 (.string y2) (.int .i64 0) wc from ⟨0, Nat.zero_le _, rfl, hst.out, hb⟩)
  have hr2 := hidden (hro.out.below hb)
  clear hst hA1 hA2 hD hN q0 q1 q2 q3 q4 q5 q6 q7
  obtain ⟨q0, q1, q2, q3, q4, q5, q6, q7⟩ := hr2.out.cells
  go_wp2_with fail
  refine (hU.out _).mono ?_
  rintro e w' ⟨rfl, rfl⟩
  clear q0 q1 q2 q3 q4 q5 q6 q7 hU hb hr2
  go_wp2_with fail
  have hUs : (⟨(useS K).toArray⟩ : ByteArray).size = (useL K).length := by rw [← hUl.out]; simp [ByteArray.size]
  generalize hUU : useS K = U at *
  replace hUU := hidden hUU
  generalize hnl : (useL K).length = nl at *
  replace hnl := hidden hnl
  go_loopw [3, 5] (fun v i wr => RtxRel o w1 v i wr) (fun _ i _ => nl - (intOf i).toNat)
  case atStart => exact hst2.out
  case round =>
    clear hst2
    obtain ⟨k, hk, rfl, rfl, hb⟩ := hrel
    rw [hKN.out, hnl.out] at hk
    have hr2 := hidden (hro.out.below hb)
    replace hb := hidden hb
    by_cases hlt : k < nl
    · have hkI : (k : Int) < (nl : Int) := by omega
      have hk5 : k ≤ 5 := by have := hul5.out; omega
      have hkN : k < (useL K).length := by rw [hnl.out]; exact hlt
      have hkU : k < U.length := by rw [hUl.out]; exact hlt
      have hP := hidden (hpl.out k hlt)
      have hnx2 := hidden (hnx.out k hlt)
      have hit2 := hidden (hit.out k hlt)
      have hlet2 := hidden (hlet.out k hlt hkU)
      have hFk := hidden (fun W => hFd.out _ hP.out W)
      have hbd := hidden (hFb.out ((useL K).getD k 0))
      have hsk := hidden (hsh.out k)
      generalize (useL K).getD k 0 = P at *
      have hDk := hidden (fun W (hb : Below w.heap.size w W) => format_any25 (fo o P) hbd.out.1 hbd.out.2 W (hEt.out W hb))
      obtain ⟨x3, hx3⟩ : ∃ x, (⟨(Lib.itoa (fo o P)).toArray⟩ : ByteArray) = x := ⟨_, rfl⟩
      obtain ⟨x, hx⟩ : ∃ x, (⟨(Lib.join ((txW o).take (2 + k)) [32]).toArray⟩ : ByteArray) = x := ⟨_, rfl⟩
      obtain ⟨s1, hB1, hs1⟩ := str_add25 Tryz.prog (Lib.join ((txW o).take (2 + k)) [32]) [32] x ⟨#[32]⟩ hx rfl (by have := hsk.out; simp; omega)
      obtain ⟨s2, hB2, hs2⟩ := str_add25 Tryz.prog (Lib.join ((txW o).take (2 + k)) [32] ++ [32]) (Lib.itoa (fo o P)) s1 x3 hs1 hx3 (by have := hsk.out; have := hit2.out; simp; omega)
      have hfin := hidden (show (Value.string s2) = bsV (Lib.join ((txW o).take (2 + (k + 1))) [32]) by rw [hnx2.out, ← hs2])
      have hbx : (bsV (Lib.join ((txW o).take (2 + k)) [32])) = .string x := by rw [← hx]
      first | rw [hx3] at hDk | (simp only [bsV] at hDk; rw [hx3] at hDk)
      obtain ⟨c, hc⟩ : ∃ c : Int, ((letL.getD P 0).toNat : Int) = c := ⟨_, rfl⟩
      rw [hc] at hFk
      have hcU : ((((⟨U.toArray⟩ : ByteArray)[k]'(by rw [hUs]; exact hlt)).toNat : Int)) = c := by
        rw [← hc]
        exact congrArg (fun b : UInt8 => (b.toNat : Int)) hlet2.out
      generalize fo o P = f at *
      obtain ⟨q0, q1, q2, q3, q4, q5, q6, q7⟩ := hr2.out.cells
      have hbw := hidden (hw1.out.trans (hb.out.mono hw1.out.size))
      rw [hbx]
      clear hx hx3 hs1 hs2 hbx hc hlet2 hit2 hsk hbd hnx2 hkN
      go_upto_region 6 with (fail)
      go_region_with (first
        | (go_at_call 22; refine (hFk.out _).mono ?_; rintro e' w4 ⟨rfl, hb4⟩; have hbq := hidden (hb.out.drew.trans (hb4.mono hb.out.drew.size)); have hbv := hidden (hbw.out.drew.trans (hb4.mono hbw.out.drew.size)))
        | (go_at_call 33; refine (hDk.out _ hbv.out).mono ?_; rintro e' w5 ⟨rfl, hb5⟩; have hbz := hidden (hbq.out.trans (hb5.mono hbq.out.size))))
      all_goals
        go_wp2
        go_roundw
        case rel => exact ⟨k + 1, by rw [hKN.out, hnl.out]; omega, by go_num, hfin.out, hbz.out⟩
        case measure => simp [intOf]; omega
    · obtain rfl : k = nl := by omega
      have hkI : ¬ (k : Int) < (k : Int) := by omega
      have hres := hidden (show (bsV (Lib.join ((txW o).take (2 + k)) [32])) = bsV (txS o) by rw [hall.out]; rfl)
      have hbw := hidden (hw1.out.trans (hb.out.mono hw1.out.size))
      clear hnx hit hlet hpl hFd hFb hsh hall hEt
      generalize bsV (Lib.join ((txW o).take (2 + k)) [32]) = v at *
      go_wp2
      go_ret
      exact ⟨by rw [hres.out]; rfl, hbw.out⟩
end Go.Proofs.YtongpgnnhpbcpaaGreatDoor
