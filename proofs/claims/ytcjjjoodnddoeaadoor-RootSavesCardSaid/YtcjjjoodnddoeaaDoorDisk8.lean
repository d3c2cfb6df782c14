/-
  disk.Crash, walked.
-/
import Derived.Test.YtcjjjoodnddoeaaDoorDisk7
namespace Go.Proofs.YtcjjjoodnddoeaaDoor
open Go.RowKit Go.Maps
set_option linter.unusedVariables false

theorem keys_apart {w w' : World} {d g m n : Nat} {D : Dk} {v : Value} {xs : List Value} {e : TypeId} (h : DiskAt w d g m D) (ho : w'.ownsRow (w.heap.size + 1) e 1 v n xs) : ∀ b, v.ownBlock = some b → ¬ dskB d g m b := fun b hb hs => by
  have h1 := h.dlt
  have h2 := h.glt
  have h3 := h.mlt
  rcases ho.2 with ⟨rfl, _⟩ | ⟨g2, cap, cur, rfl, hg, _⟩
  · cases hb
  · simp only [Value.ownBlock, Option.some.injEq] at hb
    subst hb
    rcases hs with rfl | rfl | rfl <;> omega
theorem keys_at {ps : List (Int × List Int)} {k : Nat} (h : k < ps.length) : (ps.map (·.1)).getD k 0 = (ps.getD k (0, [])).1 := by
  rw [List.getD_eq_getElem?_getD, List.getD_eq_getElem?_getD, List.getElem?_map, List.getElem?_eq_getElem h]
  rfl
theorem pget_nth {ps : List (Int × List Int)} (hr : ps.Pairwise (fun p q => p.1 < q.1)) {k : Nat} (h : k < ps.length) : pget ps (ps.getD k (0, [])).1 = some (ps.getD k (0, [])).2 := by
  refine pget_at hr ?_
  rw [List.getD_eq_getElem?_getD, List.getElem?_eq_getElem h]
  exact List.getElem_mem h
set_option maxRecDepth 100000 in
set_option maxHeartbeats 8000000 in
theorem crash_reads {w : World} {d g m : Nat} {D : Dk} (h : DiskAt w d g m D) {pv : Value} {picks : List Int} (hr : ∀ W, Trd (dskB d g m) w W → Reads .i64 W pv picks) (hpk : ∀ p ∈ picks, -9223372036854775808 ≤ p ∧ p ≤ 9223372036854775807) :
    Calls Tryd.prog 19 #[.pointer (some ⟨d, 0, none⟩), pv] w (CrashAt D picks d g m w) := by
  obtain ⟨pa, pc, rfl⟩ := reads_slice (hr w (Trd.refl _ _))
  obtain ⟨cap0, ⟨_, c1, _⟩, _⟩ := h.five
  have hok := hidden h.ok
  have hS := hidden (sorted_any h.map h.ok.rising (Nat.le_trans h.ok.len h.ok.n1))
  have hr' := hidden hr
  have hap := hidden (fun w' v => @keys_apart w w' d g m D.ps.length D v ((D.ps.map (·.1)).map (Value.int .i64)) 3 h)
  have hpk' := hidden hpk
  have hH := hidden h
  clear h hr hpk
  have hu := Tryd.underlying73
  have hz : ∀ W, (zeroValue 73).run Tryd.prog W = .ok (.agg (secV (List.replicate 128 0)).toArray) W := fun W => sec_zero W
  have hZl : (secV (List.replicate 128 0)).toArray.size = 128 := by simp [secV_len]
  have hZe := hidden (rfl : List.replicate 128 (0 : Int) = List.replicate 128 0)
  generalize hZ : List.replicate 128 (0 : Int) = Z at hz hZl
  replace hZ := hidden hZ
  go_enter Tryd.func19, Tryd.ntmps19
  go_wp2_with (first
    | (go_at_call 33; refine (keys_any m _).mono ?_; rintro e w1 ⟨rfl, rfl⟩)
    | (go_at_call 32; refine hS.out.mono ?_; rintro e w2 ⟨v, rfl, hown, hb⟩; have hkr := reads_of_own hown; have hka := hidden (hap.out _ _ hown); clear hown; have hkl := reads_slice hkr; rw [List.length_map] at hkl; obtain ⟨ka, kc, rfl⟩ := hkl; replace hkr := hidden hkr; replace hb := hidden hb)
    | go_in)
  have hw2 : Trd (dskB d g m) w w2 := Trd.of_below ((((Below.refl _ w).alloc (Nat.le_refl _) _).trans (hb.out.mono (Nat.le_succ _)))) (Nat.le_refl _)
  have hd2 := hidden (hH.out.below (((Below.refl _ w).alloc (Nat.le_refl _) _).trans (hb.out.mono (Nat.le_succ _))) (Nat.le_refl _))
  have hkr' := hidden (fun W ht => hkr.out.trd (w' := W) ht hka.out)
  replace hw2 := hidden hw2
  clear hS hap hH hb hkr hka c1
  go_loopw [15] (fun i wr => CrashRel D picks d g m w2 i wr) (fun i _ => D.ps.length - (RowKit.intOf i).toNat)
  case atStart => exact ⟨0, by omega, rfl, hd2.out, Trd.refl _ _⟩
  case round =>
    clear hd2
    obtain ⟨k, hk, rfl, hd, ht⟩ := hrel
    by_cases hlt : k < D.ps.length
    · have hkc := (hkr'.out wr ht).cell k hlt
      obtain ⟨kb, ko, rfl, ck⟩ := hkc
      obtain ⟨h0, hn, hsec⟩ := hok.out.nth hlt
      obtain ⟨kk, hkk⟩ : ∃ kk : Nat, (D.ps.getD k (0, [])).1 = (kk : Int) := ⟨(D.ps.getD k (0, [])).1.toNat, by omega⟩
      rw [keys_at hlt, hkk] at ck
      have hkn : kk < D.n := by omega
      have hps := pget_nth hok.out.rising hlt
      rw [hkk] at hps
      generalize hs : (D.ps.getD k (0, [])).2 = s at hps hsec
      have hpr := hr'.out wr (hw2.out.trans ht)
      clear h0 hn
      have hki : (k : Int) < (D.ps.length : Int) := by omega
      by_cases hp : k < picks.length
      · have hpb : -9223372036854775808 ≤ picks.getD k 0 ∧ picks.getD k 0 ≤ 9223372036854775807 := by
          rw [List.getD_eq_getElem?_getD, List.getElem?_eq_getElem hp]
          exact hpk'.out _ (List.getElem_mem hp)
        obtain ⟨pb, po, rfl, cp⟩ := hpr.cell k hp
        have hpi : (k : Int) < (picks.length : Int) := by omega
        clear hpr
        generalize hpv : picks.getD k 0 = p at *
        replace hpv := hidden hpv
        have hd1 := hd
        obtain ⟨cap, ⟨c0, c1, _⟩, _⟩ := hd1.five
        have hm := hd1.map
        have hreach := hidden (fun W => reached_any p W hpb.1 hpb.2)
        have hr8 := rch_le p
        have hrn := hidden (fun W => @crash_store D picks d g m k kk s w2 wr W hd1 ht hlt hkk hs hkn hsec hok.out 73)
        rw [hpv.out] at hrn
        have hsl : (secV s).length = 128 := by rw [secV_len, hsec.1]
        have hsl0 := hidden hsec.1
        have hsz2 := hidden (show (Tryd.prog.info? 73).map (·.size) = some (secV s).toArray.size by rw [sec_size]; simp [hsl])
        have hsz : (Tryd.prog.info? 73).map (·.size) = some (secV s).length := by rw [sec_size, hsl]
        have hq2 := hidden (show (secV Z).toArray.size = (secV s).toArray.size by rw [hZl]; simp [hsl])
        have hfa := hidden (all_oneCell_toArray (secV_one s))
        have hd2 := hd1.below ((Below.refl wr.heap.size wr).alloc (Nat.le_refl _) (.cells (secV s).toArray 73)) (Nat.le_refl _)
        have hdl := hd1.dlt
        have hgl := hd1.glt
        have hB := heap_alloc_new wr (.cells (secV s).toArray 73)
        have s1 := hidden (flushS_of (w1 := (wr.alloc (.cells (secV s).toArray 73)).drew) (k := kk) (hd2.same rfl) (Below.heap_alloc wr _ d hdl) c0 hkn hB)
        have hdg := hidden hd1.dg
        have hBg := hidden (show wr.heap.size ≠ g by omega)
        have hk0 : (0 : Int) ≤ (kk : Int) := by omega
        have hk9 : (kk : Int) < (D.n : Int) := by omega
        have hX := hidden (show (pget D.ps kk).getD (List.replicate 128 0) = s by rw [hps]; rfl)
        have hkb : -9223372036854775808 ≤ (kk : Int) ∧ (kk : Int) ≤ 9223372036854775807 := by have := hok.out.n1; omega
        have hlen8 := hidden (show D.ps.length ≤ 8192 from Nat.le_trans hok.out.len hok.out.n1)
        have hk8 : (k : Int) ≤ 8192 := by have := hlen8.out; omega
        clear hd hd2 hdl hgl hB hsec hkk hs hpb ht hd1 hps
        generalize hrch : rch p = r at hreach hr8 hrn
        clear hrch
        have hr8i : (r : Int) ≤ 128 := by omega
        have hmin := hidden (show (secV (s.take r)).length = Nat.min r 128 by rw [secV_len, List.length_take, hsl0.out])
        have hone := hidden (secV_one (s.take r))
        go_wp2_with (first
          | (refine wpList_look1 rfl _ _ rfl m _ _ rfl hm _ rfl hkb.1 hkb.2 s hX.out ?_)
          | (refine wpList_store_new rfl 73 _ _ rfl wr _ (secV s).toArray rfl rfl hsz2.out hq2.out hfa.out ?_)
          | go_in)
        go_region_held3 (fun w' => w'.cell? ⟨d, 0, none⟩ = some (.slice (some ⟨g, 0, none⟩) D.n cap) ∧ w'.rangeAt wr.heap.size 0 (secV s) ∧ w'.there g (kk * 128) 128)
          ((first | exact s1.out | exact FlushS.heap (by assumption) rfl | exact FlushS.copied (by assumption) hdg.out hBg.out _ _))
          (first
            | (go_at_call 34; refine (hreach.out _).mono ?_; rintro e w' ⟨rfl, q, rfl⟩)
            | (refine step_copy (by rfl) _ _ _ _ (by rfl) 5 Tryd.underlying24 u8_size g (kk * 128) 128 _ ⟨wr.heap.size, 0, none⟩ r _ (by rfl) (by rfl) (secV (s.take r)) hmin.out (FlushS.src (by assumption) r) (FlushS.dst (by assumption) hr8) hone.out ?_))
        go_wp2
        go_roundw
        case rel =>
          refine ⟨k + 1, by omega, by go_num, ?_⟩
          refine hrn.out _ ?_ r rfl
          exact ⟨rfl, rfl, rfl, Nat.le_refl _, fun _ _ => rfl⟩
        case measure => simp [RowKit.intOf]; omega
      · have hpb : -9223372036854775808 ≤ picks.getD k 0 ∧ picks.getD k 0 ≤ 9223372036854775807 := by
          rw [pick_out hp]; decide
        have hpi : ¬ (k : Int) < (picks.length : Int) := by omega
        have hp0 := pick_out hp
        clear hpr
        generalize hpv : picks.getD k 0 = p at *
        subst hp0
        replace hpv := hidden hpv
        have hd1 := hd
        obtain ⟨cap, ⟨c0, c1, _⟩, _⟩ := hd1.five
        have hm := hd1.map
        have hreach := hidden (fun W => reached_any 0 W (by decide) (by decide))
        have hr8 := rch_le 0
        have hrn := hidden (fun W => @crash_store D picks d g m k kk s w2 wr W hd1 ht hlt hkk hs hkn hsec hok.out 73)
        rw [hpv.out] at hrn
        have hsl : (secV s).length = 128 := by rw [secV_len, hsec.1]
        have hsl0 := hidden hsec.1
        have hsz2 := hidden (show (Tryd.prog.info? 73).map (·.size) = some (secV s).toArray.size by rw [sec_size]; simp [hsl])
        have hsz : (Tryd.prog.info? 73).map (·.size) = some (secV s).length := by rw [sec_size, hsl]
        have hq2 := hidden (show (secV Z).toArray.size = (secV s).toArray.size by rw [hZl]; simp [hsl])
        have hfa := hidden (all_oneCell_toArray (secV_one s))
        have hd2 := hd1.below ((Below.refl wr.heap.size wr).alloc (Nat.le_refl _) (.cells (secV s).toArray 73)) (Nat.le_refl _)
        have hdl := hd1.dlt
        have hgl := hd1.glt
        have hB := heap_alloc_new wr (.cells (secV s).toArray 73)
        have s1 := hidden (flushS_of (w1 := (wr.alloc (.cells (secV s).toArray 73)).drew) (k := kk) (hd2.same rfl) (Below.heap_alloc wr _ d hdl) c0 hkn hB)
        have hdg := hidden hd1.dg
        have hBg := hidden (show wr.heap.size ≠ g by omega)
        have hk0 : (0 : Int) ≤ (kk : Int) := by omega
        have hk9 : (kk : Int) < (D.n : Int) := by omega
        have hX := hidden (show (pget D.ps kk).getD (List.replicate 128 0) = s by rw [hps]; rfl)
        have hkb : -9223372036854775808 ≤ (kk : Int) ∧ (kk : Int) ≤ 9223372036854775807 := by have := hok.out.n1; omega
        have hlen8 := hidden (show D.ps.length ≤ 8192 from Nat.le_trans hok.out.len hok.out.n1)
        have hk8 : (k : Int) ≤ 8192 := by have := hlen8.out; omega
        clear hd hd2 hdl hgl hB hsec hkk hs hpb ht hd1 hps
        generalize hrch : rch 0 = r at hreach hr8 hrn
        clear hrch
        have hr8i : (r : Int) ≤ 128 := by omega
        have hmin := hidden (show (secV (s.take r)).length = Nat.min r 128 by rw [secV_len, List.length_take, hsl0.out])
        have hone := hidden (secV_one (s.take r))
        go_wp2_with (first
          | (refine wpList_look1 rfl _ _ rfl m _ _ rfl hm _ rfl hkb.1 hkb.2 s hX.out ?_)
          | (refine wpList_store_new rfl 73 _ _ rfl wr _ (secV s).toArray rfl rfl hsz2.out hq2.out hfa.out ?_)
          | go_in)
        go_region_held3 (fun w' => w'.cell? ⟨d, 0, none⟩ = some (.slice (some ⟨g, 0, none⟩) D.n cap) ∧ w'.rangeAt wr.heap.size 0 (secV s) ∧ w'.there g (kk * 128) 128)
          ((first | exact s1.out | exact FlushS.heap (by assumption) rfl | exact FlushS.copied (by assumption) hdg.out hBg.out _ _))
          (first
            | (go_at_call 34; refine (hreach.out _).mono ?_; rintro e w' ⟨rfl, q, rfl⟩)
            | (refine step_copy (by rfl) _ _ _ _ (by rfl) 5 Tryd.underlying24 u8_size g (kk * 128) 128 _ ⟨wr.heap.size, 0, none⟩ r _ (by rfl) (by rfl) (secV (s.take r)) hmin.out (FlushS.src (by assumption) r) (FlushS.dst (by assumption) hr8) hone.out ?_))
        go_wp2
        go_roundw
        case rel =>
          refine ⟨k + 1, by omega, by go_num, ?_⟩
          refine hrn.out _ ?_ r rfl
          exact ⟨rfl, rfl, rfl, Nat.le_refl _, fun _ _ => rfl⟩
        case measure => simp [RowKit.intOf]; omega
    · obtain rfl : k = D.ps.length := by omega
      obtain ⟨cap, ⟨_, c1, _⟩, _⟩ := hd.five
      have hm := hd.map
      replace hd := hidden hd
      replace ht := hidden (hw2.out.trans ht)
      go_wp2_with (first
        | (refine wpList_clear_own rfl _ 65 rfl 3 73 Tryd.underlying65 secR m _ _ rfl hm ?_; intro w3 hm3 hg3; have h3 := hd.out.clear hm3 hg3; have ht3 := hidden (ht.out.trans (Trd.grown hg3 (fun k hk => by cases hk; exact .inr (.inr rfl)))); obtain ⟨cap3, ⟨_, _, _, e3, e4⟩, fz⟩ := h3.five; have f3 := fz 3; have f4 := fz 4; clear fz hm3 hg3 hm hd c1; replace h3 := hidden h3)
        | go_in)
      go_end0
      exact ⟨rfl, (h3.out.setArmed 0 (by decide) (by decide)).setDown false, (ht3.out.trans (Trd.setCell _ _ _ (.inl rfl))).trans (Trd.setCell _ _ _ (.inl rfl))⟩
theorem crash_any {w : World} {d g m : Nat} {D : Dk} (h : DiskAt w d g m D) {pv : Value} {picks : List Int} (hr : Reads .i64 w pv picks) (hv : ∀ b, pv.ownBlock = some b → ¬ dskB d g m b) (hpk : ∀ p ∈ picks, -9223372036854775808 ≤ p ∧ p ≤ 9223372036854775807) :
    Calls Tryd.prog 19 #[.pointer (some ⟨d, 0, none⟩), pv] w (CrashAt D picks d g m w) :=
  crash_reads h (fun W ht => hr.trd ht hv) hpk
end Go.Proofs.YtcjjjoodnddoeaaDoor
