/-
  rec.Pack, rec.Unpack.
-/
import Derived.Test.YtjmpmlacaoelgaaDoorRec1
import Derived.Test.YtjmpmlacaoelgaaDoorRef
import Derived.Test.YtjmpmlacaoelgaaDoorRest
import Derived.Test.YtjmpmlacaoelgaaDoorLaw
import Derived.RegionTactic
namespace Go.Proofs.YtjmpmlacaoelgaaDoor
open Go.RowKit
set_option linter.unusedVariables false

theorem pack_ok (v : Value) (l : List Int) (w : World) (hr : Reads .i64 w v l) (hl : l.length ≤ 1000000) (hb : ∀ x ∈ l, -9223372036854775808 ≤ x ∧ x ≤ 9223372036854775807) (h64 : (encs l).length ≤ 64) :
    Calls Tryd.prog 15 #[v] w fun e w' => ∃ v', e = .returned (.tuple #[v', .nilIface]) ∧ w'.ownsRow w.heap.size 5 1 v' (encs l).length (cb (encs l)) ∧ Below w.heap.size w w' := by
  obtain ⟨a, c, rfl⟩ := reads_slice hr
  have hP := hidden (put_any _ _ [] l w (Reads.nil _ _) hr (by decide) hl hb)
  rw [List.nil_append] at hP
  have h64' : ((encs l).length : Int) ≤ 64 := by omega
  clear hr hl hb h64
  go_enter Tryd.func15, Tryd.ntmps15
  go_wp2_with fail
  refine hP.out.mono ?_
  rintro e w1 ⟨v1, rfl, hown, hb⟩
  obtain ⟨a1, c1, hv⟩ := reads_slice (reads_of_own (k := .u8) hown)
  rw [hv] at hown ⊢
  replace hown := hidden hown
  replace hb := hidden hb
  clear hv hP
  go_wp2
  go_ret2
  exact ⟨_, rfl, hown.out, hb.out⟩
theorem pack_many (A : Nat → Addr) (v : Value) (l : List Int) (w : World) (hr : Reads .i64 w v l) (hl : l.length ≤ 1000000) (hb : ∀ x ∈ l, -9223372036854775808 ≤ x ∧ x ≤ 9223372036854775807) (h64 : 64 < (encs l).length) (hE : ErrsOn [4] w A) :
    Calls Tryd.prog 15 #[v] w fun e w' => e = .returned (.tuple #[.slice none 0 0, errAt (A 4)]) ∧ Below w.heap.size w w' := by
  obtain ⟨a, c, rfl⟩ := reads_slice hr
  have hP := hidden (put_any _ _ [] l w (Reads.nil _ _) hr (by decide) hl hb)
  rw [List.nil_append] at hP
  have h64' : (64 : Int) < ((encs l).length : Int) := by omega
  have hel : (encs l).length ≤ 10000000 := by have := encs_len l hb; omega
  replace hE := hidden hE
  clear hr hl hb h64
  go_enter Tryd.func15, Tryd.ntmps15
  go_wp2_with fail
  refine hP.out.mono ?_
  rintro e w1 ⟨v1, rfl, hown, hb⟩
  have c4 : w1.cell? ⟨3, 0, none⟩ = some (errAt (A 4)) := (hE.out.below hb (Nat.le_refl _)) 4 (by simp)
  obtain ⟨a1, c1, hv⟩ := reads_slice (reads_of_own (k := .u8) hown)
  rw [hv]
  replace hb := hidden hb
  clear hv hP hown
  generalize (encs l).length = n at *
  go_wp2_with fail
  go_quiet (fail)
  go_wp2
  go_ret2
  exact ⟨rfl, below_drewN hb.out⟩

/-! what numbers are read, one behind the other -/
/-- a number at the beginning: it, and how long it is; or the error's number (0: too early, 1: not as it has to be, 2: out of range). -/
def numC (xs : List Int) : (Int × Nat) ⊕ Nat :=
  match dec 0 0 xs with
  | .fin => .inr 0
  | .shape => .inr 1
  | .ok u n => if -9223372036854775808 ≤ uz u ∧ uz u ≤ 9223372036854775807 then .inl (uz u, n) else .inr 2
def rdNext (xs : List Int) (p : Nat) (bad : Option Nat) : Int × Nat × Option Nat :=
  match bad with
  | some c => (0, p, some c)
  | none => match numC (xs.drop p) with
    | .inl (x, n) => (x, p + n, none)
    | .inr c => (0, p, some c)
structure RdSt where
  vs : List Int
  p : Nat
  bad : Option Nat
def rdS (xs : List Int) : Nat → RdSt
  | 0 => ⟨[], 0, none⟩
  | k + 1 => let s := rdS xs k; let r := rdNext xs s.p s.bad; ⟨s.vs ++ [r.1], r.2.1, r.2.2⟩
theorem rdS_vs (xs : List Int) (k : Nat) : (rdS xs (k + 1)).vs = (rdS xs k).vs ++ [(rdNext xs (rdS xs k).p (rdS xs k).bad).1] := rfl
theorem rdS_p (xs : List Int) (k : Nat) : (rdS xs (k + 1)).p = (rdNext xs (rdS xs k).p (rdS xs k).bad).2.1 := rfl
theorem rdS_bad (xs : List Int) (k : Nat) : (rdS xs (k + 1)).bad = (rdNext xs (rdS xs k).p (rdS xs k).bad).2.2 := rfl
theorem rdS_len (xs : List Int) : ∀ k, (rdS xs k).vs.length = k
  | 0 => rfl
  | k + 1 => by rw [rdS_vs, List.length_append, rdS_len xs k]; rfl
theorem numC_code {xs : List Int} {c : Nat} (h : numC xs = .inr c) : c < 3 := by
  unfold numC at h
  split at h
  · cases h; decide
  · cases h; decide
  · split at h
    · cases h
    · cases h; decide
theorem rdNext_code {xs : List Int} {p : Nat} {bad : Option Nat} (hb : ∀ c, bad = some c → c < 3) : ∀ c, (rdNext xs p bad).2.2 = some c → c < 3 := by
  intro c h
  unfold rdNext at h
  split at h
  · exact hb c h
  · split at h
    · cases h
    · rename_i hc
      cases h
      exact numC_code hc
theorem rdS_code (xs : List Int) : ∀ k c, (rdS xs k).bad = some c → c < 3
  | 0, c, h => by cases h
  | k + 1, c, h => rdNext_code (rdS_code xs k) c h
theorem numOf_numC (A : Nat → Addr) (xs : List Int) : numOf (A 0) (A 1) (A 2) xs (-9223372036854775808) 9223372036854775807 = match numC xs with | .inl r => .inl r | .inr c => .inr (A c) := by
  unfold numOf numC
  cases dec 0 0 xs with
  | fin => rfl
  | shape => rfl
  | ok u n =>
    simp only
    split <;> rfl
/-- the reader's next number, whatever it has met. -/
theorem num_rd (A : Nat → Addr) (B g p : Nat) (xs : List Int) (bad : Option Nat) (w : World) (h : Rdr w B g xs p (bad.map A)) (hx : xs.length ≤ 1000000000) (hbyte : ∀ x ∈ xs, 0 ≤ x ∧ x ≤ 255) (he : Errs3 w (A 0) (A 1) (A 2)) :
    Calls Tryd.prog 33 #[.pointer (some ⟨g, 0, none⟩), .int .i64 (-9223372036854775808), .int .i64 9223372036854775807] w fun e w' =>
      e = .returned (.int .i64 (rdNext xs p bad).1) ∧ Rdr w' B g xs (rdNext xs p bad).2.1 ((rdNext xs p bad).2.2.map A) ∧ w.grownBy w' (some g) := by
  cases bad with
  | some c =>
    refine (num_stopped B g p xs _ _ (A c) w h).mono ?_
    rintro e w' ⟨rfl, rfl⟩
    exact ⟨rfl, h, ⟨rfl, rfl, rfl, Nat.le_refl _, fun _ _ _ => rfl⟩⟩
  | none =>
    have hn := numOf_numC A (xs.drop p)
    unfold rdNext
    cases hc : numC (xs.drop p) with
    | inl r =>
      obtain ⟨x, n⟩ := r
      rw [hc] at hn
      exact num_good B g p n xs _ _ x (A 0) (A 1) (A 2) w h hx hbyte he hn
    | inr c =>
      rw [hc] at hn
      exact num_bad B g p xs _ _ (A 0) (A 1) (A 2) (A c) w h hx hbyte he hn
/-- what Unpack comes to: the numbers, or the error's number and its place. -/
def unp (xs : List Int) (n : Nat) : List Int ⊕ (Nat × Nat) :=
  match (rdS xs n).bad with
  | some c => .inr (c, (rdS xs n).p)
  | none => if (rdS xs n).p < xs.length then .inr (1, (rdS xs n).p) else .inl (rdS xs n).vs
theorem mk_longs (n : Nat) (hn : n ≤ 1000000) (W : World) : (Instr.makeSlice 25 (.int .i64 n) (.int .i64 n)).run Tryd.prog W = .ok (.slice (some ⟨W.heap.size, 0, none⟩) n n) (W.alloc (.cells (Array.replicate n (.int .i64 0)) 2)) := by
  obtain ⟨i0, hi, hz0, hz1, hz2⟩ := info_parts (show (Tryd.prog.info? 2).map (fun i => (i.zero, i.size, i.bytes)) = some (some (.int .i64 0), 1, 8) by kernel_rfl)
  have := run_make (P := Tryd.prog) W 25 2 i0 _ Tryd.underlying25 hi hz0 .i64 .i64 n n (by omega) (by omega) (by rw [hz2]; omega) (by omega)
  rw [this, Int.toNat_natCast, hz1, Nat.mul_one]
  have e : madeCells (Value.int .i64 0).cells n = Array.replicate n (.int .i64 0) := by
    apply Array.ext'
    show (madeCells #[Value.int .i64 0] n).toList = _
    rw [toList_madeCells_one]
    simp
  rw [e]
/-- a row of numbers of 64 bits. -/
def LongAt (w : World) (g : Nat) (l : List Int) : Prop := w.heap[g]? = some (.cells (l.map (Value.int .i64)).toArray 2 (0, 0))
theorem LongAt.cell {w : World} {g : Nat} {l : List Int} (h : LongAt w g l) {i : Nat} (hi : i < l.length) : w.cell? ⟨g, i, none⟩ = some (.int .i64 (l.getD i 0)) := by
  rw [cell_of_row _ _ _ _ _ _ h, List.getElem?_toArray, List.getElem?_map, List.getD_eq_getElem?_getD, List.getElem?_eq_getElem hi]
  rfl
theorem LongAt.frozen {w : World} {g : Nat} {l : List Int} (h : LongAt w g l) (i : Nat) : w.frozen? ⟨g, i, none⟩ = false := by
  have := h
  unfold LongAt at this
  simp [World.frozen?, this]
theorem LongAt.set {w : World} {g : Nat} {l : List Int} (h : LongAt w g l) (i : Nat) (x : Int) : LongAt (w.setCell ⟨g, i, none⟩ (.int .i64 x)) g (l.set i x) := by
  unfold LongAt
  rw [heap_setCell_row h]
  simp
theorem LongAt.lt {w : World} {g : Nat} {l : List Int} (h : LongAt w g l) : g < w.heap.size := (Array.getElem?_eq_some_iff.1 h).1
/-- a reader is not touched by what is written into a row of numbers. -/
theorem Rdr.beside {w w' : World} {B g p gl : Nat} {xs l : List Int} {bad : Option Addr} (h : Rdr w B g xs p bad) (hl : LongAt w gl l) (hk : w.grownBy w' (some gl)) : Rdr w' B g xs p bad := by
  obtain ⟨hB, hp, bv, errv, hg, hown, he⟩ := h
  have ne : ∀ (k : Nat) (cs : Array Value) (t : TypeId) fr, w.heap[k]? = some (.cells cs t fr) → t ≠ 2 → w'.heap[k]? = w.heap[k]? := fun k cs t fr hk2 ht => by
    refine hk.block k (Array.getElem?_eq_some_iff.1 hk2).1 fun e => ?_
    simp only [Option.some.injEq] at e
    subst e
    unfold LongAt at hl
    rw [hl] at hk2
    simp only [Option.some.injEq, Obj.cells.injEq] at hk2
    exact ht hk2.2.1.symm
  refine ⟨hB, hp, bv, errv, by rw [ne g _ _ _ hg (by decide)]; exact hg, own_other hown hl (by decide) hk, ?_⟩
  cases bad with
  | none => exact he
  | some a =>
    obtain ⟨ga, e1, e2, e3, e4⟩ := he
    exact ⟨ga, e1, e2, e3, by rw [ne ga _ _ _ e4 (by decide)]; exact e4⟩
/-- Unpack's rounds. -/
def UnpRel (A : Nat → Addr) (xs : List Int) (N g gl : Nat) (w0 : World) (i : Value) (w : World) : Prop :=
  ∃ k : Nat, k ≤ N ∧ i = .int .i64 (k : Int) ∧ Rdr w w0.heap.size g xs (rdS xs k).p ((rdS xs k).bad.map A) ∧ LongAt w gl ((rdS xs k).vs ++ List.replicate (N - k) 0) ∧ Below w0.heap.size w0 w
def UnpAt (A : Nat → Addr) (xs : List Int) (N : Nat) (w : World) (e : Ending) (w' : World) : Prop :=
  Below w.heap.size w w' ∧ match unp xs N with
    | .inl vs => ∃ v, e = .returned (.tuple #[v, .nilIface]) ∧ Reads .i64 w' v vs
    | .inr (c, p) => ∃ ga, e = .returned (.tuple #[.slice none 0 0, .iface 69 (.pointer (some ⟨ga, 0, none⟩))]) ∧ AtIn w' ga p (A c)
theorem unp_set {xs : List Int} {N k : Nat} (h : k < N) : ((rdS xs k).vs ++ List.replicate (N - k) 0).set k (rdNext xs (rdS xs k).p (rdS xs k).bad).1 = (rdS xs (k + 1)).vs ++ List.replicate (N - (k + 1)) 0 := by
  rw [rdS_vs, List.set_append_right _ _ (by rw [rdS_len]; omega), rdS_len, Nat.sub_self, show N - k = (N - (k + 1)) + 1 by omega, List.replicate_succ]
  simp

theorem errs3_of {w0 w : World} {A : Nat → Addr} (h : ErrsOn [0, 1, 2] w0 A) (hb : Below w0.heap.size w0 w) : Errs3 w (A 0) (A 1) (A 2) := by
  have := h.below hb (Nat.le_refl _)
  exact ⟨this 0 (by simp), this 1 (by simp), this 2 (by simp)⟩
set_option maxRecDepth 100000 in
set_option maxHeartbeats 3200000 in
theorem unpack_any (A : Nat → Addr) (v : Value) (xs : List Int) (N : Nat) (w : World) (hr : Reads .u8 w v xs) (hx : xs.length ≤ 1000000) (hb : ∀ x ∈ xs, 0 ≤ x ∧ x ≤ 255) (hN : N ≤ 64) (hE : ErrsOn [0, 1, 2] w A) :
    Calls Tryd.prog 16 #[v, .int .i64 (N : Int)] w (UnpAt A xs N w) := by
  obtain ⟨a, c, rfl⟩ := reads_slice hr
  have hN0 : (0 : Int) ≤ (N : Int) := by omega
  have hN1 : (N : Int) ≤ 64 := by omega
  have hnr := hidden (newReader_any _ xs w hr (by omega))
  have hmk := mk_longs N (by omega)
  replace hr := hidden hr
  replace hb := hidden hb
  replace hE := hidden hE
  have hset := hidden (fun k (h : k < N) => @unp_set xs N k h)
  go_enter Tryd.func16, Tryd.ntmps16
  go_wp2_with fail
  with_reducible refine (upTo_yes _ _ _ hN0 hN1).mono ?_
  rintro e w' ⟨rfl, rfl⟩
  go_wp2_with fail
  refine hnr.out.mono ?_
  rintro e w1 ⟨g, rfl, hR, hlow⟩
  have hR1 := hidden (hR.same (w' := w1.alloc (.cells (Array.replicate N (.int .i64 0)) 2)) (fun k hk => heap_alloc_old w1 _ hk))
  have hb1 := hidden (hlow.alloc hlow.size (.cells (Array.replicate N (.int .i64 0)) 2))
  have hL1 := hidden (show LongAt (w1.alloc (.cells (Array.replicate N (.int .i64 0)) 2)) w1.heap.size (List.replicate N 0) by unfold LongAt; rw [heap_alloc_new w1 _]; simp)
  have hgl := hidden (show w.heap.size ≤ w1.heap.size from hlow.size)
  clear hR hlow hnr
  go_wp2_with fail
  generalize (w1.alloc (.cells (Array.replicate N (.int .i64 0)) 2)) = w2 at *
  generalize w1.heap.size = gl at *
  clear hmk
  go_loopw [20] (fun i wr => UnpRel A xs N g gl w i wr) (fun i _ => N - (RowKit.intOf i).toNat)
  case atStart => exact ⟨0, Nat.zero_le _, rfl, hR1.out, by simpa [rdS] using hL1.out, hb1.out⟩
  case round =>
    clear hR1 hb1 hL1
    obtain ⟨k, hk, rfl, hR, hL, hlow⟩ := hrel
    by_cases hlt : k < N
    · have hkN : (k : Int) < (N : Int) := by omega
      have hn := hidden (num_rd A _ _ _ xs _ wr hR (by omega) hb.out (errs3_of hE.out hlow))
      have hg : g ≠ gl := fun e => by
        obtain ⟨_, _, bv, errv, hg, _⟩ := hR
        subst e
        unfold LongAt at hL
        rw [hL] at hg
        simp only [Option.some.injEq, Obj.cells.injEq] at hg
        exact absurd hg.2.1 (by decide)
      replace hg := hidden hg
      replace hR := hidden hR
      replace hL := hidden hL
      replace hlow := hidden hlow
      go_wp2_with fail
      refine hn.out.mono ?_
      rintro e w3 ⟨rfl, hR3, hg3⟩
      have hL3 : LongAt w3 gl ((rdS xs k).vs ++ List.replicate (N - k) 0) := (hg3.block gl hL.out.lt (by simpa using hg.out.symm)).trans hL.out
      have q3 := hL3.cell (i := k) (by rw [List.length_append, rdS_len, List.length_replicate]; omega)
      have f3 := hL3.frozen k
      have hL4 := hidden (hL3.set k (rdNext xs (rdS xs k).p (rdS xs k).bad).1)
      rw [hset.out k hlt] at hL4
      have hR4 := hidden (hR3.beside hL3 (setCell_grown w3 gl k (.int .i64 (rdNext xs (rdS xs k).p (rdS xs k).bad).1)))
      have hb4 := hidden (show Below w.heap.size w (w3.setCell ⟨gl, k, none⟩ (.int .i64 (rdNext xs (rdS xs k).p (rdS xs k).bad).1)) from (below_grown hlow.out hg3 hR.out.1 (Nat.le_refl _)).setCell hgl.out _)
      rw [← rdS_p, ← rdS_bad] at hR4
      generalize ((rdS xs k).vs ++ List.replicate (N - k) 0).getD k 0 = y at q3
      generalize (rdNext xs (rdS xs k).p (rdS xs k).bad).1 = z at *
      clear hL3 hR3 hg3 hn hL hR
      go_wp2
      go_roundw
      case rel => exact ⟨k + 1, hlt, by go_num, hR4.out, hL4.out, hb4.out⟩
      case measure => simp [RowKit.intOf]; omega
    · obtain rfl : k = N := by omega
      rw [Nat.sub_self, List.replicate_zero, List.append_nil] at hL
      have hcode := hidden (rdS_code xs k)
      have hu := hidden (show unp xs k = match (rdS xs k).bad with | some c => .inr (c, (rdS xs k).p) | none => if (rdS xs k).p < xs.length then .inr (1, (rdS xs k).p) else .inl (rdS xs k).vs from rfl)
      have hp := hidden hR.2.1
      have hvl := hidden (rdS_len xs k)
      generalize rdS xs k = s at *
      obtain ⟨vs, p, bad⟩ := s
      simp only at hR hL hu hp hvl
      cases bad with
      | some q =>
        have hq := hidden (err_some _ g p xs (A q) wr hR)
        replace hlow := hidden hlow
        replace hu := hidden (show unp xs k = .inr (q, p) from hu.out)
        clear hR hL hlt hset
        go_wp2_with fail
        refine hq.out.mono ?_
        rintro e w3 ⟨ga, rfl, hga, rfl⟩
        replace hga := hidden hga
        go_wp2
        go_ret2
        exact ⟨hlow.out, by rw [hu.out]; exact ⟨ga, rfl, hga.out⟩⟩
      | none =>
        have hq := hidden (err_none _ g p xs wr hR)
        have hle := hidden (left_none _ g p xs wr hR (by omega))
        have hpx := hp.out
        have hR9 := hidden (fun m => hR.same (w' := wr.drewN m) (fun _ _ => rfl))
        replace hlow := hidden hlow
        have hxI : (xs.length : Int) ≤ 1000000 := by omega
        have hpI : (p : Int) ≤ (xs.length : Int) := by omega
        replace hp := hidden hpx
        clear hR hlt hset hpx
        by_cases hlast : p < xs.length
        · have hc : (0 : Int) < (xs.length : Int) - (p : Int) := by omega
          replace hu := hidden (show unp xs k = .inr (1, p) by rw [hu.out]; simp only; rw [if_pos hlast])
          clear hL
          go_wp2_with fail
          refine hq.out.mono ?_
          rintro e w3 ⟨rfl, rfl⟩
          go_wp2_with fail
          refine hle.out.mono ?_
          rintro e w4 ⟨rfl, m, rfl⟩
          have hat := hidden (fun m => at_any _ g p xs none _ (hR9.out m))
          have c1 : (wr.drewN m).drew.cell? ⟨2, 0, none⟩ = some (errAt (A 1)) := hE.out.below hlow.out (Nat.le_refl _) 1 (by simp)
          have c2 := hidden (fun m o => show ((wr.drewN m).alloc o).cell? ⟨2, 0, none⟩ = some (errAt (A 1)) from (hE.out.below ((below_drewN hlow.out).alloc hlow.out.size o) (Nat.le_refl _)) 1 (by simp))
          have hlow2 := hidden (fun m o => (below_drewN (m := m) hlow.out).alloc hlow.out.size o)
          go_wp2_with fail
          go_region_held3 (fun w' => w'.cell? ⟨2, 0, none⟩ = some (errAt (A 1)))
            ((first | exact c1 | exact c2.out _ _))
            (first | (go_at_call 36; refine (hat.out _).mono ?_; rintro r w3 ⟨rfl, rfl⟩))
          go_wp2
          go_ret2
          exact ⟨hlow2.out _ _, by rw [hu.out]; exact ⟨_, rfl, heap_alloc_new (wr.drewN (m + 1)) _⟩⟩
        · have hc : ¬ (0 : Int) < (xs.length : Int) - (p : Int) := by omega
          replace hu := hidden (show unp xs k = .inl vs by rw [hu.out]; simp only; rw [if_neg hlast])
          have hrd := hidden (fun m => show Reads .i64 (wr.drewN m) (.slice (some ⟨gl, 0, none⟩) k k) vs from reads_block hL hvl.out (by omega))
          clear hL
          go_wp2_with fail
          refine hq.out.mono ?_
          rintro e w3 ⟨rfl, rfl⟩
          go_wp2_with fail
          refine hle.out.mono ?_
          rintro e w4 ⟨rfl, m, rfl⟩
          go_wp2
          go_ret2
          exact ⟨below_drewN hlow.out, by rw [hu.out]; exact ⟨_, rfl, hrd.out m⟩⟩
end Go.Proofs.YtjmpmlacaoelgaaDoor
