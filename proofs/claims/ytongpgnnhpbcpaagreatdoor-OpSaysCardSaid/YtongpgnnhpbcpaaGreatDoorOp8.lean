/-
  Package op: Read.
-/
import Derived.Test.YtongpgnnhpbcpaaGreatDoorOpRd
import Derived.Test.YtongpgnnhpbcpaaGreatDoorOp7
namespace Go.Proofs.YtongpgnnhpbcpaaGreatDoor
open Go.RowKit
set_option linter.unusedVariables false

/-- the error that is answered: bare, or around a place. -/
def EvIs (A : Nat → Addr) (w : World) (F : Int × Bool × Int) (ev : Value) : Prop :=
  (F.2.1 = false ∧ F.2.2 = 0 ∧ codeOk F.1 ∧ ev = errOf A F.1) ∨ (F.2.1 = true ∧ ∃ i ga : Nat, i < 21 ∧ F.1 = 101 + (i : Int) ∧ ev = .iface 74 (.pointer (some ⟨ga, 0, none⟩)) ∧ AtIn w ga F.2.2 (A i))
theorem codeOk_op (o : Opv) : codeOk (opE o) := by
  rcases op_ways o with h | h | h <;> rw [h] <;> unfold codeOk <;> omega
theorem EvIs.fault {A : Nat → Addr} {w : World} {F : Int × Bool × Int} {ev : Value} (h : EvIs A w F ev) (hS : Sents w A) : FaultIs w ev F.1 F.2.1 F.2.2 := by
  rcases h with ⟨h1, h2, h3, rfl⟩ | ⟨h1, i, ga, hi, h2, rfl, h3⟩
  · rw [h1, h2]
    exact faultIs_of A F.1 w hS h3
  · rw [h1, h2]
    exact faultIs_at A i ga F.2.2 w hS hi h3
theorem EvIs.below {A : Nat → Addr} {w w' : World} {F : Int × Bool × Int} {ev : Value} (h : EvIs A w F ev) (hb : Below w.heap.size w w') : EvIs A w' F ev := by
  rcases h with h | ⟨h1, i, ga, hi, h2, h4, h3⟩
  · exact .inl h
  · exact .inr ⟨h1, i, ga, hi, h2, h4, by unfold AtIn; rw [hb.block ga (Array.getElem?_eq_some_iff.1 (show _ = _ from h3)).1]; exact h3⟩
theorem EvIs.nil {A : Nat → Addr} {w : World} {F : Int × Bool × Int} {ev : Value} (h : EvIs A w F ev) (h0 : F.1 = 0) : ev = .nilIface := by
  rcases h with ⟨h1, h2, h3, rfl⟩ | ⟨h1, i, ga, hi, h2, rfl, h3⟩
  · rw [h0]; rfl
  · omega
theorem EvIs.some {A : Nat → Addr} {w : World} {F : Int × Bool × Int} {ev : Value} (h : EvIs A w F ev) (h0 : F.1 ≠ 0) : ∃ t a, ev = .iface t (.pointer (some a)) := by
  rcases h with ⟨h1, h2, h3, rfl⟩ | ⟨h1, i, ga, hi, h2, rfl, h3⟩
  · obtain ⟨a, e⟩ := errOf_bad25 A h0
    exact ⟨_, a, e⟩
  · exact ⟨_, _, rfl⟩
def RpAt (A : Nat → Addr) (xs : List Int) (w : World) (e : Ending) (w' : World) : Prop :=
  ∃ ev, e = .returned (.tuple #[opV (rpR xs), ev]) ∧ EvIs A w' (rpF xs) ev ∧ Below w.heap.size w w'
theorem rp_ret {xs : List Int} {ev : Value} (h : (rpF xs).1 ≠ 0) : Ending.returned (.tuple #[opV zeO, ev]) = .returned (.tuple #[opV (rpR xs), ev]) := by rw [rp_bad h]
set_option maxRecDepth 100000 in
set_option maxHeartbeats 3200000 in
theorem read_many (A : Nat → Addr) (v : Value) (xs : List Int) (w : World) (hE : OpEnv A w) (hX : Reads .u8 w v xs) (hs : 256 < xs.length) :
    Calls Tryz.prog 15 #[v] w (RpAt A xs w) := by
  obtain ⟨a, c, rfl⟩ := reads_slice hX
  have hl : (256 : Int) < (xs.length : Int) := by omega
  have hw1 := hidden (show Below w.heap.size w (w.alloc zOb25) from (Below.refl _ _).alloc (Nat.le_refl _) _)
  have hr := hidden (show OpAt (w.alloc zOb25) w.heap.size zeO from ⟨heap_alloc_new w zOb25⟩)
  have c4 : (w.alloc zOb25).cell? ⟨3, 0, none⟩ = some (errAt (A 4)) := (hE.sents.on [4] (by decide)).below hw1.out (Nat.le_refl _) 4 (by simp)
  have hfin := hidden (show Ending.returned (.tuple #[opV zeO, errAt (A 4)]) = .returned (.tuple #[opV (rpR xs), errAt (A 4)]) from rp_ret (by rw [rp_many hs]; decide))
  have hev := hidden (fun W => show EvIs A W (rpF xs) (errAt (A 4)) from .inl (by rw [rp_many hs]; exact ⟨rfl, rfl, .inr (by decide), rfl⟩))
  clear hE hX hs
  go_enter Tryz.func15, Tryz.ntmps15
  go_wp2_with fail
  go_region
  go_wp2
  exact op_end rfl rfl rfl rfl (show OpAt (w.alloc zOb25).drew w.heap.size zeO from ⟨hr.out.row⟩) ⟨_, hfin.out, hev.out _, hw1.out.drew⟩
theorem OpAt.grown {w w' : World} {g r : Nat} {o : Opv} (h : OpAt w r o) (hg : w.grownBy w' (some g)) (hne : r ≠ g) : OpAt w' r o := ⟨(hg.block r h.lt (by simpa using hne)).trans h.row⟩
theorem FdAt.grown {w w' : World} {g r : Nat} {f : Nat → Int} (h : FdAt w r f) (hg : w.grownBy w' (some g)) (hne : r ≠ g) : FdAt w' r f := ⟨(hg.block r h.lt (by simpa using hne)).trans h.row⟩
/-- a reader is not touched by what is written into the fields. -/
theorem Rdr.aside25 {w w' : World} {B g p gl : Nat} {xs : List Int} {f : Nat → Int} {bad : Option Addr} (h : Rdr w B g xs p bad) (hl : FdAt w gl f) (hk : w.grownBy w' (some gl)) : Rdr w' B g xs p bad := by
  obtain ⟨hB, hp, bv, errv, hg, hown, he⟩ := h
  have ne : ∀ (k : Nat) (cs : Array Value) (t : TypeId) fr, w.heap[k]? = some (.cells cs t fr) → t ≠ 53 → w'.heap[k]? = w.heap[k]? := fun k cs t fr hk2 ht => by
    refine hk.block k (Array.getElem?_eq_some_iff.1 hk2).1 fun e => ?_
    simp only [Option.some.injEq] at e
    subst e
    have := hl.row
    rw [hk2] at this
    simp only [Option.some.injEq, Obj.cells.injEq] at this
    exact ht this.2.1
  refine ⟨hB, hp, bv, errv, by rw [ne g _ _ _ hg (by decide)]; exact hg, own_other hown hl.row (by decide) hk, ?_⟩
  cases bad with
  | none => exact he
  | some a =>
    obtain ⟨ga, e1, e2, e3, e4⟩ := he
    exact ⟨ga, e1, e2, e3, by rw [ne ga _ _ _ e4 (by decide)]; exact e4⟩
theorem Rdr.at25 {w : World} {B g p : Nat} {xs : List Int} {bad : Option Addr} (h : Rdr w B g xs p bad) : B ≤ g ∧ g < w.heap.size := by
  obtain ⟨hB, hp, bv, errv, hg, _⟩ := h
  exact ⟨hB, (Array.getElem?_eq_some_iff.1 hg).1⟩
theorem putO_aside {w : World} {g k : Nat} (h : k ≠ g) (v0 v1 v2 v3 v4 v5 v6 v7 : Value) : ((((((((w.setCell ⟨g, 0, none⟩ v0).setCell ⟨g, 1, none⟩ v1).setCell ⟨g, 2, none⟩ v2).setCell ⟨g, 3, none⟩ v3).setCell ⟨g, 4, none⟩ v4).setCell ⟨g, 5, none⟩ v5).setCell ⟨g, 6, none⟩ v6).setCell ⟨g, 7, none⟩ v7).heap[k]? = w.heap[k]? := by
  have e : ∀ (W : World) (j : Nat) (u : Value), (W.setCell ⟨g, j, none⟩ u).heap[k]? = W.heap[k]? := fun W j u => Below.heap_setCell _ _ _ _ (by simpa using h)
  rw [e, e, e, e, e, e, e, e]
theorem at_put25 {w w7 : World} {r : Nat} (h : OpAt w7 r zeO) (hb : Below w.heap.size w w7) (hB : w.heap.size ≤ r) (p : Int) (a : Addr) :
    AtIn (((((((((w7.setCell ⟨r, 0, none⟩ (.int .i64 0)).setCell ⟨r, 1, none⟩ (.int .i64 0)).setCell ⟨r, 2, none⟩ (.int .i64 0)).setCell ⟨r, 3, none⟩ (.int .i64 0)).setCell ⟨r, 4, none⟩ (.int .i64 0)).setCell ⟨r, 5, none⟩ (.int .i64 0)).setCell ⟨r, 6, none⟩ (.int .i64 0)).setCell ⟨r, 7, none⟩ (.int .i64 0)).alloc (.cells #[.int .i64 p, errAt a] 76)).drew w7.heap.size p a ∧ OpAt (((((((((w7.setCell ⟨r, 0, none⟩ (.int .i64 0)).setCell ⟨r, 1, none⟩ (.int .i64 0)).setCell ⟨r, 2, none⟩ (.int .i64 0)).setCell ⟨r, 3, none⟩ (.int .i64 0)).setCell ⟨r, 4, none⟩ (.int .i64 0)).setCell ⟨r, 5, none⟩ (.int .i64 0)).setCell ⟨r, 6, none⟩ (.int .i64 0)).setCell ⟨r, 7, none⟩ (.int .i64 0)).alloc (.cells #[.int .i64 p, errAt a] 76)).drew r zeO ∧ Below w.heap.size w (((((((((w7.setCell ⟨r, 0, none⟩ (.int .i64 0)).setCell ⟨r, 1, none⟩ (.int .i64 0)).setCell ⟨r, 2, none⟩ (.int .i64 0)).setCell ⟨r, 3, none⟩ (.int .i64 0)).setCell ⟨r, 4, none⟩ (.int .i64 0)).setCell ⟨r, 5, none⟩ (.int .i64 0)).setCell ⟨r, 6, none⟩ (.int .i64 0)).setCell ⟨r, 7, none⟩ (.int .i64 0)).alloc (.cells #[.int .i64 p, errAt a] 76)).drew := by
  have h1 := h.put zeO
  have h2 : Below w.heap.size w ((((((((w7.setCell ⟨r, 0, none⟩ (.int .i64 0)).setCell ⟨r, 1, none⟩ (.int .i64 0)).setCell ⟨r, 2, none⟩ (.int .i64 0)).setCell ⟨r, 3, none⟩ (.int .i64 0)).setCell ⟨r, 4, none⟩ (.int .i64 0)).setCell ⟨r, 5, none⟩ (.int .i64 0)).setCell ⟨r, 6, none⟩ (.int .i64 0)).setCell ⟨r, 7, none⟩ (.int .i64 0)) := below_putO hb hB _ _ _ _ _ _ _ _
  have hs : (((((((((w7.setCell ⟨r, 0, none⟩ (.int .i64 0)).setCell ⟨r, 1, none⟩ (.int .i64 0)).setCell ⟨r, 2, none⟩ (.int .i64 0)).setCell ⟨r, 3, none⟩ (.int .i64 0)).setCell ⟨r, 4, none⟩ (.int .i64 0)).setCell ⟨r, 5, none⟩ (.int .i64 0)).setCell ⟨r, 6, none⟩ (.int .i64 0)).setCell ⟨r, 7, none⟩ (.int .i64 0))).heap.size = w7.heap.size := by simp
  simp only [zeO] at h1
  generalize ((((((((w7.setCell ⟨r, 0, none⟩ (.int .i64 0)).setCell ⟨r, 1, none⟩ (.int .i64 0)).setCell ⟨r, 2, none⟩ (.int .i64 0)).setCell ⟨r, 3, none⟩ (.int .i64 0)).setCell ⟨r, 4, none⟩ (.int .i64 0)).setCell ⟨r, 5, none⟩ (.int .i64 0)).setCell ⟨r, 6, none⟩ (.int .i64 0)).setCell ⟨r, 7, none⟩ (.int .i64 0)) = W at *
  refine ⟨?_, (h1.below ((Below.refl W.heap.size W).alloc (Nat.le_refl _) _)).drew, (h2.alloc h2.size _).drew⟩
  unfold AtIn
  rw [← hs]
  exact heap_alloc_new W _
def rdF25 (xs : List Int) (k : Nat) : Nat → Int := fun p => if p < k then rdV25 xs (p + 2) else 0
theorem rdF_next25 (xs : List Int) (k p : Nat) : rdF25 xs (k + 1) p = if p = k then rdV25 xs (k + 2) else rdF25 xs k p := by
  unfold rdF25
  by_cases h : p = k
  · subst h; rw [if_pos (by omega), if_pos rfl]
  · rw [if_neg h]
    by_cases h2 : p < k
    · rw [if_pos (by omega), if_pos h2]
    · rw [if_neg (by omega), if_neg h2]
def RdLoop (A : Nat → Addr) (xs : List Int) (B g gl r : Nat) (w : World) (i : Value) (wr : World) : Prop :=
  ∃ k : Nat, k ≤ 6 ∧ i = .int .i64 (k : Int) ∧ Rdr wr B g xs (rdS25 xs (k + 2)).p ((rdS25 xs (k + 2)).bad.map A) ∧ FdAt wr gl (rdF25 xs k) ∧ OpAt wr r zeO ∧ Below w.heap.size w wr
theorem errs25 {A : Nat → Addr} {w W : World} (hE : OpEnv A w) (hb : Below w.heap.size w W) : Errs3 W (A 0) (A 1) (A 2) := errs_of (hE.sents.below hb (Nat.le_refl _))
set_option maxRecDepth 100000 in
set_option maxHeartbeats 3200000 in
theorem read_rest (A : Nat → Addr) (v : Value) (xs : List Int) (w : World) (hE : OpEnv A w) (hX : Reads .u8 w v xs) (hx : ∀ x ∈ xs, 0 ≤ x ∧ x ≤ 255) (hs : ¬ 256 < xs.length) :
    Calls Tryz.prog 15 #[v] w (RpAt A xs w) := by
  obtain ⟨a, c, rfl⟩ := reads_slice hX
  have hl : ¬ (256 : Int) < (xs.length : Int) := by omega
  have hw1 := hidden (show Below w.heap.size w (w.alloc zOb25) from (Below.refl _ _).alloc (Nat.le_refl _) _)
  have hr := hidden (show OpAt (w.alloc zOb25) w.heap.size zeO from ⟨heap_alloc_new w zOb25⟩)
  have hnr := hidden (newReader_any _ xs (w.alloc zOb25) (hX.below hw1.out (Nat.le_refl _)) (by omega))
  have hB1 : (w.alloc zOb25).heap.size = w.heap.size + 1 := by simp
  rw [hB1] at hnr
  replace hE := hidden hE
  replace hx := hidden hx
  have hs' := hidden hs
  have hlen := hidden (show xs.length ≤ 1000000000 by omega)
  clear hX hs
  go_enter Tryz.func15, Tryz.ntmps15
  go_wp2_with fail
  refine hnr.out.mono ?_
  rintro e w2 ⟨g, rfl, hR, hlow⟩
  rw [← hB1] at hlow
  have hgB := hidden (show w.heap.size + 1 ≤ g from hR.at25.1)
  replace hr := hidden (hr.out.below hlow)
  replace hw1 := hidden (hw1.out.trans (hlow.mono hw1.out.size))
  have n1 := hidden (num_rdG A _ _ xs (rdS25 xs 0) w2 hR hlen.out hx.out (errs25 hE.out hw1.out))
  clear hnr hlow hR hB1
  go_wp2_with fail
  refine n1.out.mono ?_
  rintro e w3 ⟨rfl, hR, hg3⟩
  replace hr := hidden (hr.out.grown hg3 (by have := hgB.out; omega))
  replace hw1 := hidden (hw1.out.grown hg3 hw1.out.size (fun k hk => by cases hk; have := hgB.out; omega))
  have n2 := hidden (num_rdG A _ _ xs (rdS25 xs 1) w3 hR hlen.out hx.out (errs25 hE.out hw1.out))
  clear n1 hg3 hR
  go_wp2_with fail
  refine n2.out.mono ?_
  rintro e w4 ⟨rfl, hR, hg4⟩
  replace hr := hidden (hr.out.grown hg4 (by have := hgB.out; omega))
  replace hw1 := hidden (hw1.out.grown hg4 hw1.out.size (fun k hk => by cases hk; have := hgB.out; omega))
  have hgg := hidden (show g < w4.heap.size from hR.at25.2)
  have hfd := hidden (show FdAt (w4.alloc zFd25) w4.heap.size (rdF25 xs 0) from ⟨heap_alloc_new w4 zFd25⟩)
  have hRd := hidden (show Rdr (w4.alloc zFd25) (w.heap.size + 1) g xs (rdS25 xs 2).p ((rdS25 xs 2).bad.map A) from hR.same (fun k hk => heap_alloc_old w4 _ hk))
  replace hr := hidden (hr.out.below ((Below.refl w4.heap.size w4).alloc (Nat.le_refl _) zFd25))
  replace hw1 := hidden (hw1.out.alloc hw1.out.size zFd25)
  clear n2 hg4 hR
  generalize hv0 : (rdN25 xs (rdS25 xs 0)).1 = v0 at *
  generalize hv1 : (rdN25 xs (rdS25 xs 1)).1 = v1 at *
  replace hv0 := hidden (show rdV25 xs 0 = v0 from hv0)
  replace hv1 := hidden (show rdV25 xs 1 = v1 from hv1)
  go_upto_region 7 with (fail)
  generalize w4.alloc zFd25 = w5 at *
  generalize w4.heap.size = gl at *
  go_wp2_with fail
  go_loopw [21] (fun i wr => RdLoop A xs (w.heap.size + 1) g gl w.heap.size w i wr) (fun i _ => 6 - (intOf i).toNat)
  case atStart => exact ⟨0, by decide, rfl, hRd.out, hfd.out, hr.out, hw1.out⟩
  case round =>
    clear hRd hfd hr hw1
    obtain ⟨k, hk, rfl, hR, hf, hr, hb⟩ := hrel
    by_cases hlt : k < 6
    · have hkI : (k : Int) < 6 := by omega
      have hN := hidden (num_rdG A _ _ xs (rdS25 xs (k + 2)) wr hR hlen.out hx.out (errs25 hE.out hb))
      replace hr := hidden hr
      replace hf := hidden hf
      replace hb := hidden hb
      have hnx := hidden (fun p => rdF_next25 xs k p)
      have hsn := hidden (rdS_next25 xs (k + 2))
      go_wp2_with fail
      refine hN.out.mono ?_
      rintro e w6 ⟨rfl, hR6, hg6⟩
      have hf6 := hf.out.grown hg6 (by have := hgg.out; omega)
      have hr6 := hr.out.grown hg6 (by have := hgB.out; omega)
      have hb6 := hidden (hb.out.grown hg6 hb.out.size (fun k hk => by cases hk; have := hgB.out; omega))
      have q6 := hf6.cell k hlt
      have fz := hf6.frozen k
      have hR7 := hidden (hR6.aside25 hf6 (setCell_grown w6 gl k (.int .i64 (rdN25 xs (rdS25 xs (k + 2))).1)))
      have hf7 := hidden (hf6.put (x := (rdN25 xs (rdS25 xs (k + 2))).1) hlt (fun p => hnx.out p))
      have hr7 := hidden (show OpAt (w6.setCell ⟨gl, k, none⟩ (.int .i64 (rdN25 xs (rdS25 xs (k + 2))).1)) w.heap.size zeO from ⟨(Below.heap_setCell _ _ _ _ (by have := hgg.out; have := hgB.out; simp; omega)).trans hr6.row⟩)
      have hb7 := hidden (hb6.out.setCell (p := ⟨gl, k, none⟩) (by have := hgg.out; have := hgB.out; simp; omega) (.int .i64 (rdN25 xs (rdS25 xs (k + 2))).1))
      rw [← hsn.out] at hR7
      generalize (rdN25 xs (rdS25 xs (k + 2))).1 = z at *
      clear hN hf hr hb hf6 hr6 hb6 hg6 hR6
      go_wp2
      go_roundw
      case rel => exact ⟨k + 1, hlt, by go_num, by rw [show k + 1 + 2 = k + 2 + 1 by omega]; exact hR7.out, hf7.out, hr7.out, hb7.out⟩
      case measure => simp [intOf]; omega
    · obtain rfl : k = 6 := by omega
      replace hr := hidden hr
      have hcode := hidden (rdS_code25 xs 8)
      have hend := hidden (fun hc hl2 => @rp_end xs hs'.out hc hl2)
      have hleft := hidden (fun hc hl2 => @rp_left xs hs'.out hc hl2)
      have herr := hidden (fun c hc => @rp_err xs hs'.out c hc)
      change Rdr wr (w.heap.size + 1) g xs (rdS25 xs 8).p ((rdS25 xs 8).bad.map A) at hR
      generalize rdS25 xs 8 = s at *
      obtain ⟨p, bad⟩ := s
      simp only at hR hcode hend hleft herr
      cases bad with
      | some q =>
        have hfr := hidden (herr.out q rfl)
        have hfin := hidden (fun ev => show Ending.returned (.tuple #[opV zeO, ev]) = .returned (.tuple #[opV (rpR xs), ev]) from rp_ret (by rw [hfr.out]; show 101 + (q : Int) ≠ 0; omega))
        have hq := hidden (err_some _ g p xs (A q) wr hR)
        have hq3 := hidden (hcode.out q rfl)
        have hlw := hidden hb
        clear hR hb hf hend hleft herr hE hx hs'
        go_wp2_with fail
        refine hq.out.mono ?_
        rintro e w6 ⟨ga, rfl, hga, rfl⟩
        have hev := hidden (show ∀ W : World, W.heap[ga]? = wr.heap[ga]? → EvIs A W (rpF xs) (.iface 74 (.pointer (some ⟨ga, 0, none⟩))) from fun W hW => .inr (by rw [hfr.out]; exact ⟨rfl, q, ga, by have := hq3.out; omega, rfl, rfl, by unfold AtIn; rw [hW]; exact hga⟩))
        have hne := hidden (show ga ≠ w.heap.size from fun e => by
          have := hr.out.row
          rw [← e, hga] at this
          simp only [Option.some.injEq, Obj.cells.injEq] at this
          exact absurd this.2.1 (by decide))
        clear hga hq
        obtain ⟨d0, d1, d2, d3, d4, d5, d6, d7⟩ := hr.out.cells
        simp only [zeO] at d0 d1 d2 d3 d4 d5 d6 d7
        have f0 := hr.out.frozen 0
        have f1 := hr.out.frozen 1
        have f2 := hr.out.frozen 2
        have f3 := hr.out.frozen 3
        have f4 := hr.out.frozen 4
        have f5 := hr.out.frozen 5
        have f6 := hr.out.frozen 6
        have f7 := hr.out.frozen 7
        go_wp2
        exact op_end rfl rfl rfl rfl (hr.out.put zeO) ⟨_, hfin.out _, hev.out _ (putO_aside hne.out _ _ _ _ _ _ _ _), below_putO hlw.out (Nat.le_refl _) _ _ _ _ _ _ _ _⟩
      | none =>
        have hq := hidden (err_none _ g p xs wr hR)
        have hle := hidden (left_none _ g p xs wr hR hlen.out)
        have hpx := hR.2.1
        have hpI : (p : Int) ≤ (xs.length : Int) := by omega
        have hxI : (xs.length : Int) ≤ 256 := by omega
        by_cases hlast : p < xs.length
        · have hc0 : (0 : Int) < (xs.length : Int) - (p : Int) := by omega
          have hfr := hidden (hleft.out rfl hlast)
          have hfin := hidden (fun ev => show Ending.returned (.tuple #[opV zeO, ev]) = .returned (.tuple #[opV (rpR xs), ev]) from rp_ret (by rw [hfr.out]; show (102 : Int) ≠ 0; decide))
          replace hR := hidden hR
          replace hb := hidden hb
          clear hf hend hleft herr hx hs' hlast hcode hpx
          go_wp2_with fail
          refine hq.out.mono ?_
          rintro e w6 ⟨rfl, rfl⟩
          go_wp2_with fail
          refine hle.out.mono ?_
          rintro e w7 ⟨rfl, m, rfl⟩
          have hat := hidden (fun W (hW : ∀ i, i < wr.heap.size → W.heap[i]? = wr.heap[i]?) => at_any _ g p xs none W (hR.out.same hW))
          clear hq hle
          go_upto_region 16 with (fail)
          have hr7 := hidden (hr.out.below (below_drewN (m := m) (Below.refl wr.heap.size wr)))
          have hb7 := hidden (below_drewN (m := m) hb.out)
          have hat7 := hidden (show ∀ i, i < wr.heap.size → (wr.drewN m).drew.heap[i]? = wr.heap[i]? from fun _ _ => rfl)
          have hsz7 := hidden (show (wr.drewN m).heap.size = wr.heap.size from rfl)
          generalize wr.drewN m = w7 at *
          have hat1 := hidden (hat.out _ hat7.out)
          go_cut [3] (fun v wx => ∃ ga : Nat, v = .iface 74 (.pointer (some ⟨ga, 0, none⟩)) ∧ AtIn wx ga (p : Int) (A 1) ∧ OpAt wx w.heap.size zeO ∧ Below w.heap.size w wx)
          case first =>
            clear hat hr hR
            have hrlt : w.heap.size < w7.heap.size := hr7.out.lt
            have hrne : ¬ w.heap.size = w7.heap.size := by omega
            have hrne2 : ¬ w7.heap.size = w.heap.size := by omega
            have hr := hr7
            obtain ⟨d0, d1, d2, d3, d4, d5, d6, d7⟩ := hr.out.cells
            simp only [zeO] at d0 d1 d2 d3 d4 d5 d6 d7
            have f0 := hr.out.frozen 0
            have f1 := hr.out.frozen 1
            have f2 := hr.out.frozen 2
            have f3 := hr.out.frozen 3
            have f4 := hr.out.frozen 4
            have f5 := hr.out.frozen 5
            have f6 := hr.out.frozen 6
            have f7 := hr.out.frozen 7
            have k1 : w7.cell? ⟨4, 0, none⟩ = some (errAt (A 1)) := (hE.out.sents.below hb7.out (Nat.le_refl _)).cell 1 (by decide)
            have hg1 : 4 ≠ w.heap.size := fun e => by rw [e, d0] at k1; cases k1
            have k1b := fun u j => cell_aside (j := j) (u := u) k1 hg1
            go_region_with (first | (go_at_call 38; refine hat1.out.mono ?_; rintro e' w8 ⟨rfl, rfl⟩))
            all_goals (go_wp2_with fail; go_meet)
            all_goals exact ⟨_, rfl, at_put25 hr7.out hb7.out (Nat.le_refl _) _ _⟩
          case rest =>
            obtain ⟨ga, rfl, hga, hrx, hbx⟩ := hcut
            have hev := hidden (show EvIs A wc (rpF xs) (.iface 74 (.pointer (some ⟨ga, 0, none⟩))) from .inr (by rw [hfr.out]; exact ⟨rfl, 1, ga, by decide, rfl, rfl, hga⟩))
            replace hrx := hidden hrx
            replace hbx := hidden hbx
            go_wp2
            exact op_end rfl rfl rfl rfl hrx.out ⟨_, hfin.out _, hev.out, hbx.out⟩
        · have hc0 : ¬ (0 : Int) < (xs.length : Int) - (p : Int) := by omega
          obtain ⟨e1, e2⟩ := hend.out rfl hlast
          have hO : rpO xs = mkO v0 v1 (rdF25 xs 6) := by
            unfold rpO
            rw [hv0.out, hv1.out]
            exact mk_same fun i hi => (if_pos hi).symm
          rw [hO] at e1 e2
          have hfin := hidden (show Ending.returned (.tuple #[opV (opR (mkO v0 v1 (rdF25 xs 6))), errOf A (opE (mkO v0 v1 (rdF25 xs 6)))]) = .returned (.tuple #[opV (rpR xs), errOf A (opE (mkO v0 v1 (rdF25 xs 6)))]) by rw [e2])
          have hev := hidden (fun W => show EvIs A W (rpF xs) (errOf A (opE (mkO v0 v1 (rdF25 xs 6)))) from .inl (by rw [e1]; exact ⟨rfl, rfl, codeOk_op _, rfl⟩))
          have hv1b := hidden (show v1 ≤ 9223372036854775807 by rw [← hv1.out]; have := rdV_bd25 xs 1; omega)
          have hC := hidden (fun W (hb : Below w.heap.size w W) => checked_any A v0 v1 (rdF25 xs 6) W ((hE.out.sents.on [2, 10] (by decide)).below hb (Nat.le_refl _)) (hE.out.rows.below hb (Nat.le_refl _)) (fun i _ => by unfold rdF25; have := rdV_bd25 xs (i + 2); split <;> omega))
          have hNw := hidden (fun W => narrow_any v1 W hv1b.out)
          replace hf := hidden hf
          replace hb := hidden hb
          clear hR hend hleft herr hx hs' hlast hcode hpx e1 e2 hO
          generalize mkO v0 v1 (rdF25 xs 6) = O at *
          generalize opR O = R at *
          generalize errOf A (opE O) = ev at *
          generalize rdF25 xs 6 = f at *
          go_wp2_with fail
          refine hq.out.mono ?_
          rintro e w6 ⟨rfl, rfl⟩
          go_wp2_with fail
          refine hle.out.mono ?_
          rintro e w7 ⟨rfl, m, rfl⟩
          clear hq hle
          go_upto_region 17 with (fail)
          have hr7 := hidden (hr.out.below (below_drewN (m := m) (Below.refl wr.heap.size wr)))
          have hf7 := hidden (hf.out.below (below_drewN (m := m) (Below.refl wr.heap.size wr)))
          have hb7 := hidden (below_drewN (m := m) hb.out)
          generalize wr.drewN m = w7 at *
          clear hr hf hb
          have q0 := hf7.out.cell 0 (by decide)
          have q1 := hf7.out.cell 1 (by decide)
          have q2 := hf7.out.cell 2 (by decide)
          have q3 := hf7.out.cell 3 (by decide)
          have q4 := hf7.out.cell 4 (by decide)
          have q5 := hf7.out.cell 5 (by decide)
          go_cut [3] (fun v wx => v = ev ∧ OpAt wx w.heap.size R ∧ Below w.heap.size w wx)
          case first =>
            go_region_with (first
              | (go_at_call 40; (with_reducible refine (hNw.out _).mono ?_); rintro e' w8 ⟨rfl, rfl⟩)
              | (go_at_call 39; refine (hC.out w7.drew hb7.out.drew).mono ?_; rintro e' w9 ⟨rfl, hb9⟩; have hr := hidden (hr7.out.drew.below hb9); obtain ⟨d0, d1, d2, d3, d4, d5, d6, d7⟩ := hr.out.cells; simp only [zeO] at d0 d1 d2 d3 d4 d5 d6 d7; have f0 := hr.out.frozen 0; have f1 := hr.out.frozen 1; have f2 := hr.out.frozen 2; have f3 := hr.out.frozen 3; have f4 := hr.out.frozen 4; have f5 := hr.out.frozen 5; have f6 := hr.out.frozen 6; have f7 := hr.out.frozen 7))
            all_goals (go_wp2_with fail; go_meet; exact ⟨rfl, hr.out.put R, below_putO (hb7.out.drew.trans (hb9.mono hb7.out.drew.size)) (Nat.le_refl _) _ _ _ _ _ _ _ _⟩)
          case rest =>
            obtain ⟨rfl, hrx, hbx⟩ := hcut
            replace hrx := hidden hrx
            replace hbx := hidden hbx
            go_wp2
            exact op_end rfl rfl rfl rfl hrx.out ⟨_, hfin.out, hev.out _, hbx.out⟩
theorem read_any25 (A : Nat → Addr) (v : Value) (xs : List Int) (w : World) (hE : OpEnv A w) (hX : Reads .u8 w v xs) (hx : ∀ x ∈ xs, 0 ≤ x ∧ x ≤ 255) :
    Calls Tryz.prog 15 #[v] w (RpAt A xs w) := by
  by_cases hs : 256 < xs.length
  · exact read_many A v xs w hE hX hs
  · exact read_rest A v xs w hE hX hx hs
end Go.Proofs.YtongpgnnhpbcpaaGreatDoor
