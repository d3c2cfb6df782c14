/-
  slices.Max of what is not nothing; slices.Repeat of a single 1; the split of the target.
-/
import Derived.Test.YtlanggdmdpjfbaaDoorFundMath
import Derived.Test.YtlanggdmdpjfbaaDoorShare5
import Derived.Laws.IdiomCopy
import Derived.Deep.RegionHeld3
import Derived.Deep.MidRow
namespace Go.Proofs.YtlanggdmdpjfbaaDoor
open Go Go.RowKit
set_option linter.unusedVariables false

/-! The greatest. -/
theorem mxL_next (L : List Int) {k : Nat} (h : 0 < k) : mxL L k = max (mxL L (k - 1)) (wF L k) := by
  cases k with
  | zero => omega
  | succ k => rfl
def MxRel24 (L : List Int) (w0 : World) (m i : Value) (w : World) : Prop := ∃ k : Nat, 0 < k ∧ k ≤ L.length ∧ i = .int .i64 (k : Int) ∧ m = .int .i64 (mxL L (k - 1)) ∧ w0 = w
set_option maxHeartbeats 1600000 in
theorem max_any24 (v : Value) (L : List Int) (w : World) (hr : Reads .i64 w v L) (h0 : 0 < L.length) (hl : L.length ≤ 1000000) :
    Calls Tryd.prog 34 #[v] w fun e w' => e = .returned (.int .i64 (mxL L (L.length - 1))) ∧ w' = w := by
  obtain ⟨a1, c1, rfl⟩ := reads_slice hr
  have hx := hidden (fun k hk => hr.cell k hk)
  have h0I : ¬ (L.length : Int) < 1 := by omega
  obtain ⟨b0, o0, rfl, q0⟩ := hx.out 0 h0
  rw [show L.getD 0 0 = mxL L 0 from rfl, Nat.add_zero] at q0
  have h0J : (0 : Int) < (L.length : Int) := by omega
  have hlJ : (L.length : Int) ≤ 1000000 := by omega
  have hst := hidden (show MxRel24 L w (.int .i64 (mxL L 0)) (.int .i64 1) w from ⟨1, by omega, h0, rfl, rfl, rfl⟩)
  generalize mxL L 0 = z at *
  clear hr h0
  go_enter Tryd.func34, Tryd.ntmps34
  go_wp2_with fail
  go_loopw [3, 4] (fun m i wr => MxRel24 L w m i wr) (fun _ i _ => L.length - (RowKit.intOf i).toNat)
  case atStart => exact hst.out
  case round =>
    clear hst
    obtain ⟨k, h1, hk, rfl, rfl, rfl⟩ := hrel
    by_cases hlt : k < L.length
    · have hlI : (k : Int) < (L.length : Int) := by omega
      obtain ⟨b, o, e1, q1⟩ := hx.out k hlt
      simp only [Option.some.injEq, Addr.mk.injEq, and_true] at e1
      obtain ⟨rfl, rfl⟩ := e1
      rw [show L.getD k 0 = wF L k from rfl] at q1
      have hn := hidden (mxL_next L h1)
      generalize mxL L (k - 1) = m at *
      generalize hmk : mxL L k = mk at *
      replace hmk := hidden hmk
      generalize wF L k = x at *
      clear hx q0
      go_wp2
      all_goals
        go_roundw
        case rel => exact ⟨k + 1, by omega, hlt, by go_num, by rw [show k + 1 - 1 = k from rfl, hmk.out, hn.out], rfl⟩
        case measure => simp [RowKit.intOf]; omega
    · obtain rfl : k = L.length := by omega
      have hm := hidden (show mxL L (L.length - 1) = mxL L (L.length - 1) from rfl)
      clear hx q0
      go_wp2
      go_ret
      exact ⟨rfl, rfl⟩

/-! One and a number, multiplied. -/
theorem mul64_one24 (n : Int) (w : World) (h0 : 0 ≤ n) (h1 : n ≤ 1000000) :
    Calls Tryd.prog 55 #[.int .u64 1, .int .u64 n] w fun e w' => e = .returned (.tuple #[.int .u64 0, .int .u64 n]) ∧ w' = w := by
  have e1 : bits .and .u64 n 4294967295 = n := by rw [and_low32 h0 (by omega)]; omega
  have e2 : n / 4294967296 = 0 := by omega
  have e3 : bits .and .u64 1 4294967295 = 1 := by rw [and_low32 (by decide) (by decide)]; rfl
  have e4 : bits .and .u64 0 4294967295 = 0 := by rw [and_low32 (by decide) (by decide)]; rfl
  have e5 : IntKind.u64.wrap n = n := by rw [IntKind.wrap_u64]; omega
  go_enter Tryd.func55, Tryd.ntmps55
  go_wp2
  go_ret2
  exact ⟨rfl, rfl⟩
theorem mul_one24 (n : Int) (w : World) (h0 : 0 ≤ n) (h1 : n ≤ 1000000) :
    Calls Tryd.prog 44 #[.int .u64 1, .int .u64 n] w fun e w' => e = .returned (.tuple #[.int .u64 0, .int .u64 n]) ∧ w' = w := by
  have hM := hidden (mul64_one24 n w h0 h1)
  go_enter Tryd.func44, Tryd.ntmps44
  go_wp2_with fail
  refine hM.out.mono ?_
  rintro e w1 ⟨rfl, rfl⟩
  go_wp2
  go_ret2
  exact ⟨rfl, rfl⟩

/-! Repeat. -/
theorem wpList_copyC {P : Program} {w : World} {ops : Array Oper} {rest : List Oper} {o : Oper} {a : Act} {Q : Exit → Act → World → Prop} (hgd : o.guard = none) (d s : Operand) (dT sT : TypeId)
    (ho : o.op = .call { callee := .builtin .copy, args := #[d, s], argTypes := #[dT, sT] }) (elem : TypeId) (hu : P.underlying dT = some (.slice elem)) (hsz : (P.info? elem).map (·.size) = some 1)
    (g off dLen dCap : Nat) (ad : Addr) (sLen sCap : Nat) (hd : a.eval d = .slice (some ⟨g, off, none⟩) dLen dCap) (hs : a.eval s = .slice (some ad) sLen sCap)
    (cs : List Value) (hn : cs.length = Nat.min sLen dLen) (hsrc : ∀ j v, cs[j]? = some v → w.cell? (ad.add j) = some v) (hth : w.there g off cs.length) (h1 : ∀ v ∈ cs, v.oneCell' = true)
    (h : wpList P ops Q rest (a.put o.dst (goInt cs.length)) (w.setCells g off cs)) : wpList P ops Q (o :: rest) a w := by
  refine wpList_plain hgd fun K hK => ?_
  have hrun := run_copy_cells (P := P) w dT sT o.type elem g off dLen dCap ad sLen sCap cs hu hsz hn hsrc (fun j hj => (hth j hj).1) (fun j hj => (hth j hj).2) h1
  unfold Oper.wp
  simp [execOp, ho, resolve, invoke, builtin, hd, hs, hrun, Result.andThen]
  exact hK _ _ h
theorem step_copyC {P : Program} {ops : Array Oper} {o : Oper} {a : Act} {w : World} {K : Act → World → Prop} {Q : Exit → Act → World → Prop} {E : Prop} (hgd : o.guard = none) (d s : Operand) (dT sT : TypeId)
    (ho : o.op = .call { callee := .builtin .copy, args := #[d, s], argTypes := #[dT, sT] }) (elem : TypeId) (hu : P.underlying dT = some (.slice elem)) (hsz : (P.info? elem).map (·.size) = some 1)
    (g off dLen dCap : Nat) (ad : Addr) (sLen sCap : Nat) (hd : a.eval d = .slice (some ⟨g, off, none⟩) dLen dCap) (hs : a.eval s = .slice (some ad) sLen sCap)
    (cs : List Value) (hn : cs.length = Nat.min sLen dLen) (hsrc : ∀ j v, cs[j]? = some v → w.cell? (ad.add j) = some v) (hth : w.there g off cs.length) (h1 : ∀ v ∈ cs, v.oneCell' = true)
    (h : K (a.put o.dst (goInt cs.length)) (w.setCells g off cs)) :
    if Region.wanted o (yielded ops a.tmps) = true then Oper.wp P o a w K Q else E := by
  have hw : Region.wanted o (yielded ops a.tmps) = true := by simp [Region.wanted, hgd]
  rw [if_pos hw]
  have hrun := run_copy_cells (P := P) w dT sT o.type elem g off dLen dCap ad sLen sCap cs hu hsz hn hsrc (fun j hj => (hth j hj).1) (fun j hj => (hth j hj).2) h1
  unfold Oper.wp execOp
  simp only [ho, resolve, invoke, builtin, Sem.run_bind, Sem.run_pure, Result.andThen_ok, List.map_toArray, List.map_cons, List.map_nil, hd, hs, hrun]
  exact h
abbrev on24 (n k : Nat) : List Int := upL (fun _ => 1) n k
abbrev one24 (j : Nat) : List Value := List.replicate j (.int .i64 1)
theorem ones_put (n k j : Nat) (h : k + j ≤ n) : ((on24 n k).map (Value.int .i64)).take k ++ one24 j ++ ((on24 n k).map (Value.int .i64)).drop (k + j) = (on24 n (k + j)).map (Value.int .i64) := by
  refine List.ext_getElem (by simp [upL]; omega) fun i h1 h2 => ?_
  have hi : i < n := by simpa [upL] using h2
  rw [List.getElem_map, upL_get]
  by_cases q : i < k
  · rw [List.getElem_append_left (by simp [upL]; omega), List.getElem_append_left (by simp [upL]; omega), List.getElem_take, List.getElem_map, upL_get, if_pos q, if_pos (by omega)]
  · by_cases q2 : i < k + j
    · rw [List.getElem_append_left (by simp [upL]; omega), List.getElem_append_right (by simp [upL]; omega), List.getElem_replicate, if_pos q2]
    · rw [List.getElem_append_right (by simp [upL]; omega), List.getElem_drop, List.getElem_map, upL_get, if_neg q2, if_neg (by simp [upL]; omega)]
section
variable {T : TypeId} {w : World} {g n k j : Nat}
theorem Nu23.ones (h : Nu23 T w g (on24 n k)) (hk : k + j ≤ n) : Nu23 T (w.setCells g k (one24 j)) g (on24 n (k + j)) := by
  unfold Nu23 at *
  rw [heap_setCells_row _ _ _ _ (by simp [upL]; omega) h, List.length_replicate, ones_put n k j hk]
theorem Nu23.src24 (h : Nu23 T w g (on24 n k)) (hk : k ≤ n) (hj : j ≤ k) : ∀ i v, (one24 j)[i]? = some v → w.cell? ((⟨g, 0, none⟩ : Addr).add i) = some v := fun i v hv => by
  have hi : i < j := by
    have := (List.getElem?_eq_some_iff.1 hv).1
    simpa using this
  have hv2 : v = .int .i64 1 := by
    rw [List.getElem?_replicate, if_pos hi] at hv
    exact (Option.some.inj hv).symm
  have hc := h.cell (i := i) (by rw [upL_len]; omega)
  rw [upL_at _ (by omega), if_pos (by omega)] at hc
  rw [Addr.add_mid, Nat.zero_add, hc, hv2]
theorem Nu23.there24 (h : Nu23 T w g (on24 n k)) (hk : k + j ≤ n) : w.there g k (one24 j).length := fun i hi => by
  rw [List.length_replicate] at hi
  exact ⟨by rw [h.cell (by rw [upL_len]; omega)]; rfl, h.frozen _⟩
end
theorem one24_one (j : Nat) : ∀ v ∈ one24 j, v.oneCell' = true := fun v hv => by
  rw [List.eq_of_mem_replicate hv]; rfl
theorem below_setCells24 {w w' : World} {g : Nat} (h : Below w.heap.size w w') (hg : w.heap.size ≤ g) (k : Nat) (vs : List Value) : Below w.heap.size w (w'.setCells g k vs) :=
  h.trans ((Trd.setCells (S := fun i => w.heap.size ≤ i) (b := g) hg vs k w').below (fun _ q => q) h.size)
theorem on24_end (k : Nat) : on24 k k = List.replicate k 1 := by
  rw [show on24 k k = (List.range k).map (fun _ => 1) from upL_end _ _]
  exact List.ext_getElem (by simp) (fun i _ _ => by simp)
theorem infoL24 : (Tryd.prog.info? 2).map (·.size) = some 1 := by kernel_rfl
def RpRel24 (n : Nat) (w0 : World) (i : Value) (w : World) : Prop := ∃ k : Nat, 0 < k ∧ k ≤ n ∧ i = .int .i64 (k : Int) ∧ Nu23 2 w w0.heap.size (on24 n k) ∧ Below w0.heap.size w0 w
set_option maxRecDepth 100000 in
set_option maxHeartbeats 3200000 in
theorem repeat_one24 (P n : Nat) (w : World) (hP : w.cell? ⟨P, 0, none⟩ = some (.int .i64 1)) (h0 : 0 < n) (hn : n ≤ 1000) :
    Calls Tryd.prog 35 #[.slice (some ⟨P, 0, none⟩) 1 1, .int .i64 (n : Int)] w fun e w' => e = .returned (.slice (some ⟨w.heap.size, 0, none⟩) n n) ∧ Reads .i64 w' (.slice (some ⟨w.heap.size, 0, none⟩) n n) (List.replicate n 1) ∧ Below w.heap.size w w' := by
  have hM := hidden (mul_one24 (n : Int) w (by omega) (by omega))
  have u1 : IntKind.u64.wrap (n : Int) = (n : Int) := by rw [IntKind.wrap_u64]; omega
  have u2 : IntKind.i64.wrap (n : Int) = (n : Int) := by rw [IntKind.wrap_i64]; omega
  have t1 : decide ((9223372036854775807 : Int) < (n : Int)) = false := decide_eq_false (by omega)
  have t2 : ¬ (n : Int) < 0 := by omega
  have hmk := mk_longs23 n (by omega)
  have hN0 := Nu23.new 2 w n
  have hb0 := (Below.refl w.heap.size w).alloc (Nat.le_refl _) (.cells (Array.replicate n (.int .i64 0)) 2)
  have hN0' : Nu23 2 (w.alloc (.cells (Array.replicate n (.int .i64 0)) 2)) w.heap.size (on24 n 0) := by rw [show on24 n 0 = List.replicate n 0 from upL_zero _ _]; exact hN0
  have hN1 := hN0'.ones (j := 1) (by omega)
  rw [Nat.zero_add] at hN1
  have hst := hidden (show RpRel24 n w (.int .i64 1) ((w.alloc (.cells (Array.replicate n (.int .i64 0)) 2)).setCells w.heap.size 0 (one24 1)) from ⟨1, by omega, h0, rfl, hN1, below_setCells24 hb0 (Nat.le_refl _) _ _⟩)
  have hth := hidden (hN0'.there24 (j := 1) (by omega))
  have hsr := hidden (show ∀ j v, (one24 1)[j]? = some v → (w.alloc (.cells (Array.replicate n (.int .i64 0)) 2)).cell? ((⟨P, 0, none⟩ : Addr).add j) = some v from fun j v hv => by
    have hj : j < 1 := by
      have := (List.getElem?_eq_some_iff.1 hv).1
      simpa using this
    obtain rfl : j = 0 := by omega
    have hv2 : v = .int .i64 1 := by
      rw [List.getElem?_replicate, if_pos hj] at hv
      exact (Option.some.inj hv).symm
    rw [Addr.add_mid, hv2, ((Below.refl w.heap.size w).alloc (Nat.le_refl _) (.cells (Array.replicate n (.int .i64 0)) 2)).cell (World.block_lt_of_cell? w _ hP)]
    exact hP)
  have hmn := hidden (show (one24 1).length = Nat.min 1 n from by
    rw [List.length_replicate]; exact (Nat.min_eq_left h0).symm)
  clear hN0 hb0 hN0' hN1 hP
  have hn' := hidden hn
  go_enter Tryd.func35, Tryd.ntmps35
  go_wp2_with fail
  refine hM.out.mono ?_
  rintro e w1 ⟨rfl, rfl⟩
  clear hM
  go_wp2_with (refine wpList_copyC rfl _ _ _ _ rfl 2 Tryd.underlying23 infoL24 _ 0 n n ⟨P, 0, none⟩ 1 1 rfl rfl (one24 1) hmn.out hsr.out hth.out (one24_one 1) ?_)
  go_loopw [8] (fun i wr => RpRel24 n w1 i wr) (fun i _ => n - (RowKit.intOf i).toNat)
  case atStart => exact hst.out
  case round =>
    clear hst hsr hth hmn
    obtain ⟨k, hk0, hk, rfl, hN, hb⟩ := hrel
    by_cases hlt : k < n
    · have hlI : (k : Int) < (n : Int) := by omega
      have hkI : (0 : Int) ≤ (k : Int) := by omega
      have hkn : (k : Int) ≤ (n : Int) := by omega
      have hne : ¬ n = k := by omega
      obtain ⟨j, hj⟩ : ∃ j, j = Nat.min k (n - k) := ⟨_, rfl⟩
      have hj0 : 0 < j := by rw [hj]; exact Nat.lt_min.2 ⟨hk0, by omega⟩
      have hjk : j ≤ k := by rw [hj]; exact Nat.min_le_left _ _
      have hjn : k + j ≤ n := by
        have h2 : j ≤ n - k := by rw [hj]; exact Nat.min_le_right _ _
        omega
      have hD : Nu23 2 wr.drew w1.heap.size (on24 n k) := hN
      have hs1 := hidden (hD.src24 hk hjk)
      have hs2 := hidden (hD.there24 hjn)
      have hs3 := hidden (show (one24 j).length = Nat.min k (n - k) from by rw [List.length_replicate]; exact hj)
      have hN2 := hidden (hD.ones hjn)
      have hb2 := hidden (below_setCells24 hb.drew (Nat.le_refl _) k (one24 j))
      have hw : IntKind.i64.wrap ((k : Int) + (j : Int)) = ((k + j : Nat) : Int) := by rw [IntKind.wrap_i64]; have := hn'.out; omega
      have hjl := hidden (show goInt (one24 j).length = .int .i64 (j : Int) from by rw [List.length_replicate]; rfl)
      have hjn' := hidden hjn
      have hj0' := hidden hj0
      clear hj hN hb hD hj0 hjk hjn
      go_wp2_with fail
      go_region_held3 (fun _ => True) (trivial)
        ((refine step_copyC (by rfl) _ _ _ _ (by rfl) 2 Tryd.underlying23 infoL24 w1.heap.size k (n - k) (n - k) ⟨w1.heap.size, 0, none⟩ k n (by rfl) (by rfl) (one24 j) hs3.out hs1.out hs2.out (one24_one j) ?_; rw [hjl.out]))
      all_goals
        go_wp2
        go_roundw
        case rel => exact ⟨k + j, by have := hj0'.out; omega, hjn'.out, rfl, hN2.out, hb2.out⟩
        case measure => have := hj0'.out; simp [RowKit.intOf]; omega
    · obtain rfl : k = n := by omega
      have hend := hidden (hN.reads (n := k) (upL_len _ _ _) (by have := hn'.out; omega))
      rw [on24_end] at hend
      replace hb := hidden hb
      clear hN
      go_wp2
      go_ret
      exact ⟨rfl, hend.out, hb.out⟩
end Go.Proofs.YtlanggdmdpjfbaaDoor
