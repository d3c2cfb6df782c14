/-
  disk.Write.
-/
import Derived.Test.YtcjjjoodnddoeaaDoorDisk2
namespace Go.Proofs.YtcjjjoodnddoeaaDoor
open Go.RowKit Go.Maps
set_option linter.unusedVariables false

def wrC (D : Dk) (i : Int) (len : Nat) : Int := if D.power.down = true then 109 else if 0 ≤ i ∧ i < D.n then (if len = 128 then 0 else 102) else 108
def wrD (D : Dk) (i : Int) (xs : List Int) : Dk := if wrC D i xs.length = 0 then D.power.write i xs else D.power
theorem power_n (D : Dk) : D.power.n = D.n := by unfold Dk.power; split <;> rfl
def WriteAt (A : Nat → Addr) (d g m : Nat) (D : Dk) (i : Int) (xs : List Int) (w : World) (e : Ending) (w' : World) : Prop :=
  e = .returned (errOf A (wrC D i xs.length)) ∧ DiskAt w' d g m (wrD D i xs) ∧ Trd (dskB d g m) w w'
theorem wr_down {A : Nat → Addr} {d g m : Nat} {D : Dk} {i : Int} {xs : List Int} {w : World} (w' : World) (h : D.power.down = true) (h1 : DiskAt w' d g m D.power) (h2 : Trd (dskB d g m) w w') : WriteAt A d g m D i xs w (.returned (errAt (A 8))) w' := by
  have e : wrC D i xs.length = 109 := by simp [wrC, h]
  exact ⟨by rw [e]; rfl, by rw [wrD, e, if_neg (by decide)]; exact h1, h2⟩
theorem wr_full {A : Nat → Addr} {d g m : Nat} {D : Dk} {i : Int} {xs : List Int} {w : World} (w' : World) (h : D.power.down = false) (h0 : ¬ (0 ≤ i ∧ i < D.n)) (h1 : DiskAt w' d g m D.power) (h2 : Trd (dskB d g m) w w') : WriteAt A d g m D i xs w (.returned (errAt (A 7))) w' := by
  have e : wrC D i xs.length = 108 := by simp [wrC, h, h0]
  exact ⟨by rw [e]; rfl, by rw [wrD, e, if_neg (by decide)]; exact h1, h2⟩
theorem wr_shape {A : Nat → Addr} {d g m : Nat} {D : Dk} {i : Int} {xs : List Int} {w : World} (w' : World) (h : D.power.down = false) (h0 : 0 ≤ i ∧ i < D.n) (hl : xs.length ≠ 128) (h1 : DiskAt w' d g m D.power) (h2 : Trd (dskB d g m) w w') : WriteAt A d g m D i xs w (.returned (errAt (A 1))) w' := by
  have e : wrC D i xs.length = 102 := by simp [wrC, h, h0, hl]
  exact ⟨by rw [e]; rfl, by rw [wrD, e, if_neg (by decide)]; exact h1, h2⟩
theorem wr_fine {A : Nat → Addr} {d g m : Nat} {D : Dk} {i : Int} {xs : List Int} {w : World} (w' : World) (h : D.power.down = false) (h0 : 0 ≤ i ∧ i < D.n) (hl : xs.length = 128) (h1 : DiskAt w' d g m (D.power.write i xs)) (h2 : Trd (dskB d g m) w w') : WriteAt A d g m D i xs w (.returned .nilIface) w' := by
  have e : wrC D i xs.length = 0 := by simp [wrC, h, h0, hl]
  exact ⟨by rw [e]; rfl, by rw [wrD, e, if_pos rfl]; exact h1, h2⟩

/-- a sector is laid into what is pending. -/
theorem DiskAt.put {w : World} {d g m : Nat} {D : Dk} (h : DiskAt w d g m D) {i : Int} {s : List Int} (h0 : 0 ≤ i) (h1 : i < D.n) (hs : secOk s) :
    ∃ w', (Instr.mapUpdate 65 (.map (some m)) (.int .i64 i) (aggV s)).run Tryd.prog w = .ok () w' ∧ DiskAt w' d g m { D with ps := putP D.ps i s } ∧ Trd (dskB d g m) w w' := by
  have hl := h.ok.len
  have hn := h.ok.n1
  obtain ⟨w', hrun, hown, hg⟩ := h.map.update sec_key Tryd.underlying65 (by unfold maxLen; omega) (keyOf_int_mk Tryd.underlying3 (a := i) (WalkArith.wf_i64 (by omega))) (secR_mk hs)
  rw [dat_put] at hown
  have hown := own_tight hown
  rw [dat_size] at hown
  have hb : ∀ k, k < w.heap.size → k ≠ m → w'.heap[k]? = w.heap[k]? := fun k hk hne => hg.block k hk (fun e => hne (Option.some.inj e))
  obtain ⟨cap, hc⟩ := h.cells
  exact ⟨w', hrun, ⟨⟨h.ok.n0, h.ok.n1, h.ok.fl, (h.ok.write h0 h1 hs).ps, (h.ok.write h0 h1 hs).rising, h.ok.armed⟩, h.dg, ⟨cap, by rw [hb _ h.dlt h.dm]; exact hc⟩, h.rows.block (hb _ h.glt h.gm), hown⟩, Trd.grown hg (fun k hk => by cases hk; exact .inr (.inr rfl))⟩
theorem run_arrayAt {P : Program} (t n e : Nat) (hu : P.underlying t = some (.array n e)) (a : Option Addr) (c : Nat) (w : World) : (Instr.arrayAt t (.slice a n c)).run P w = .ok (.pointer a) w := by
  simp [Instr.arrayAt, run_underlying hu, Result.andThen]
theorem reads_range {w : World} {b o n c : Nat} {xs : List Int} (h : Reads .u8 w (.slice (some ⟨b, o, none⟩) n c) xs) : w.rangeAt b o (secV xs) := fun j v hv => by
  have := h.cells ⟨b, o, none⟩ rfl j v hv
  rwa [Addr.add_mid] at this

set_option maxRecDepth 100000 in
set_option maxHeartbeats 4000000 in
theorem write_any (A : Nat → Addr) {w : World} {d g m : Nat} {D : Dk} (h : DiskAt w d g m D) (i : Int) {v : Value} {xs : List Int} (hE : ErrsOn [1, 7, 8] w A) (hr : Reads .u8 w v xs) (hv : ∀ b, v.ownBlock = some b → ¬ dskB d g m b) (hx : ∀ x ∈ xs, 0 ≤ x ∧ x < 256) :
    Calls Tryd.prog 21 #[.pointer (some ⟨d, 0, none⟩), .int .i64 i, v] w (WriteAt A d g m D i xs w) := by
  obtain ⟨a, c, rfl⟩ := reads_slice hr
  have hp := hidden (powered_any h)
  have hE' := hidden (fun w' ht => hE.disk h (w' := w') ht)
  have hr' := hidden (fun w' ht => hr.trd (w' := w') ht hv)
  clear h hE hr hv
  have hn := hidden (power_n D)
  generalize hD : D.power = D1 at hp hn
  replace hD := hidden hD
  cases hdn : D1.down with
  | true =>
    have hwr := hidden (@wr_down A d g m D i xs w)
    rw [hD.out] at hwr
    rw [hdn] at hp
    replace hdn := hidden hdn
    go_enter Tryd.func21, Tryd.ntmps21
    go_wp2_with (go_at_call 36; refine hp.out.mono ?_; rintro e w1 ⟨rfl, h1, ht1⟩; have k1 := hidden (hE'.out w1 ht1); have c8 := k1.out 8 (by decide); simp [sentG] at c8; replace h1 := hidden h1; replace ht1 := hidden ht1)
    go_ret
    exact hwr.out _ hdn.out h1.out ht1.out
  | false =>
    rw [hdn] at hp
    by_cases hi : 0 ≤ i ∧ i < (D.n : Int)
    · by_cases hl : xs.length = 128
      · have hwr := hidden (@wr_fine A d g m D i xs w)
        rw [hD.out] at hwr
        obtain ⟨i0, i1⟩ := hi
        have hsec := hidden (show secOk xs from ⟨hl, hx⟩)
        have hi1 := hidden (show decide (0 ≤ i ∧ i < (D1.n : Int)) = true by rw [hn.out]; simp [i0, i1])
        have hl2 : (xs.length : Int) = 128 := by omega
        have hl3 : xs.length = 128 := hl
        obtain ⟨b, o, c', e⟩ := reads_some (hr'.out w (Trd.refl _ _)) (by omega)
        obtain ⟨rfl, _, rfl⟩ := Value.slice.inj e
        replace hdn := hidden hdn
        replace hi := hidden (And.intro i0 i1)
        replace hl := hidden hl
        replace hx := hidden hx
        clear i0 i1 e
        go_enter Tryd.func21, Tryd.ntmps21
        go_wp2_with (first
          | (go_at_call 36; refine hp.out.mono ?_; rintro e w1 ⟨rfl, h1, ht1⟩; replace h1 := hidden h1; replace ht1 := hidden ht1)
          | (go_at_call 37; have hh := has_any h1.out i; rw [hi1.out] at hh; refine hh.mono ?_; clear hh; rintro e w' ⟨rfl, rfl⟩))
        have hrg := reads_range (hr'.out w1 ht1.out)
        obtain ⟨cap, ⟨_, c1, _⟩, _⟩ := h1.out.five
        obtain ⟨w2, hrun, h2, ht2⟩ := (h1.out.same (w' := w1.drew) rfl).put hi.out.1 (by rw [hn.out]; exact hi.out.2) hsec.out
        have hu := Tryd.underlying73
        have hsz : (Tryd.prog.info? 73).map (·.size) = some (secV xs).length := by rw [sec_size, secV_len, hl.out]
        have hsl : (secV xs).length = 128 := by rw [secV_len, hl.out]
        obtain ⟨cap2, ⟨_, _, e2, _⟩, fz⟩ := h2.five
        have f2 := fz 2
        clear fz
        have h3 := hidden (h2.setCalls (wrap64 (D1.calls + 1)))
        have ht3 := hidden (((ht1.out.trans (Trd.drew w1)).trans ht2).trans (Trd.setCell w2 ⟨d, 2, none⟩ (.int .i64 (wrap64 (D1.calls + 1))) (.inl rfl)))
        have harr := run_arrayAt (P := Tryd.prog) 73 128 _ Tryd.underlying73 (some ⟨b, o, none⟩) c
        have hrg2 := reads_range (hr'.out w2 ((ht1.out.trans (Trd.drew w1)).trans ht2))
        obtain ⟨_, ⟨_, d1, _⟩, _⟩ := h2.five
        clear h2 ht2
        go_region_held3 (fun w' => w'.cell? ⟨d, 1, none⟩ = some (.map (some m)) ∧ w'.rangeAt b o (secV xs)) (go_keep_ranges) (fail)
        go_wp2
        go_ret
        exact hwr.out _ hdn.out hi.out hl.out h3.out ht3.out
      · have hwr := hidden (@wr_shape A d g m D i xs w)
        rw [hD.out] at hwr
        have hl2 : ¬ (xs.length : Int) = 128 := by omega
        have hi1 := hidden (show decide (0 ≤ i ∧ i < (D1.n : Int)) = true by rw [hn.out]; simp [hi])
        replace hdn := hidden hdn
        replace hi := hidden hi
        replace hl := hidden hl
        go_enter Tryd.func21, Tryd.ntmps21
        go_wp2_with (first
          | (go_at_call 36; refine hp.out.mono ?_; rintro e w1 ⟨rfl, h1, ht1⟩; have k1 := hidden (hE'.out w1 ht1); have c1 := k1.out 1 (by decide); simp [sentG] at c1; replace h1 := hidden h1; replace ht1 := hidden ht1)
          | (go_at_call 37; have hh := has_any h1.out i; rw [hi1.out] at hh; refine hh.mono ?_; clear hh; rintro e w' ⟨rfl, rfl⟩))
        go_ret
        exact hwr.out _ hdn.out hi.out hl.out h1.out ht1.out
    · have hwr := hidden (@wr_full A d g m D i xs w)
      rw [hD.out] at hwr
      have hi1 := hidden (show decide (0 ≤ i ∧ i < (D1.n : Int)) = false by rw [hn.out]; simp only [hi, decide_false])
      replace hdn := hidden hdn
      replace hi := hidden hi
      go_enter Tryd.func21, Tryd.ntmps21
      go_wp2_with (first
        | (go_at_call 36; refine hp.out.mono ?_; rintro e w1 ⟨rfl, h1, ht1⟩; have k1 := hidden (hE'.out w1 ht1); have c7 := k1.out 7 (by decide); simp [sentG] at c7; replace h1 := hidden h1; replace ht1 := hidden ht1)
        | (go_at_call 37; have hh := has_any h1.out i; rw [hi1.out] at hh; refine hh.mono ?_; clear hh; rintro e w' ⟨rfl, rfl⟩))
      go_ret
      exact hwr.out _ hdn.out hi.out h1.out ht1.out
end Go.Proofs.YtcjjjoodnddoeaaDoor
