/-
  disk.Flush.
-/
import Derived.Test.YtcjjjoodnddoeaaDoorDisk4
namespace Go.Proofs.YtcjjjoodnddoeaaDoor
open Go.RowKit Go.Maps Go.ChangeMaps Go.MapKept
open Go.WideElems (Fit rd rg pl rd_val elemAt)
set_option linter.unusedVariables false

/-- 'clear(m)'. -/
theorem wpList_clear_own {H : Type} {P : Program} {w : World} {ops : Array Oper} {rest : List Oper} {o : Oper} {a : Act} {Q : Exit → Act → World → Prop} (hg : o.guard = none) (x : Operand) (t : TypeId) (hop : o.op = Op.call { callee := Callee.builtin Builtin.clear, args := #[x], argTypes := #[t] })
    (k e : TypeId) (ht : P.underlying t = some (.map k e)) (R : Value → Option (DataW H × List MemPlace)) (b n : Nat) (D : DataW H) (hm : a.eval x = .map (some b)) (hown : w.ownsMap P k R b n D)
    (hK : ∀ w', w'.ownsMap P k R b 0 (.map []) → w.grownBy w' (some b) → wpList P ops Q rest (a.put o.dst (.tuple #[])) w') :
    wpList P ops Q (o :: rest) a w := by
  refine wpList_plain hg fun K' hK' => ?_
  obtain ⟨es, clock, hb, F, hs, rfl⟩ := hown
  have hrun : (Builtin.clear_ #[t] o.type #[.map (some b)]).run P w = .ok (.tuple #[]) (setBlock w b (.map #[] clock)) := by
    simp [Builtin.clear_, run_underlying ht, MapKept.run_getObj_map hb, MapKept.run_setObj_map _ hb, Result.andThen, setBlock]
  unfold Oper.wp
  simp [execOp, hop, resolve, invoke, builtin, hm, hrun, Result.andThen]
  refine hK' _ _ (hK _ ⟨#[], clock, heap_setBlock_same hb _, ⟨by simp, stamped_empty clock, by simp⟩, Nat.le_refl _, rfl⟩ ⟨rfl, rfl, rfl, by simp [setBlock], fun i _ hi => heap_setBlock_other hb _ (fun e => hi (by rw [e]))⟩)

theorem ranges_block {H : Type} {P : Program} {k : TypeId} {R : Value → Option (DataW H × List MemPlace)} {w w' : World} {b r n : Nat} {D : DataW H} {left : Lit → Bool} {cnt : Nat} (h : w.ranges P k R b r n D left cnt) (hb : w'.heap[b]? = w.heap[b]?) (hr : w'.heap[r]? = w.heap[r]?) : w'.ranges P k R b r n D left cnt := by
  obtain ⟨es, clock, since, seen, c0, h1, F, hs, hD, h2, rest⟩ := h
  exact ⟨es, clock, since, seen, c0, hb.trans h1, F, hs, hD, hr.trans h2, rest⟩

def flC (D : Dk) : Int := if D.power.down = true then 109 else 0
def flD (D : Dk) : Dk := if D.power.down = true then D.power else D.power.flush
def FlushAt (A : Nat → Addr) (d g m : Nat) (D : Dk) (w : World) (e : Ending) (w' : World) : Prop :=
  e = .returned (errOf A (flC D)) ∧ DiskAt w' d g m (flD D) ∧ Trd (dskB d g m) w w'
theorem fl_down {A : Nat → Addr} {d g m : Nat} {D : Dk} {w : World} (w' : World) (h : D.power.down = true) (h1 : DiskAt w' d g m D.power) (h2 : Trd (dskB d g m) w w') : FlushAt A d g m D w (.returned (errAt (A 8))) w' :=
  ⟨by simp only [flC, h, if_true]; rfl, by simp only [flD, h, if_true]; exact h1, h2⟩
theorem fl_fine {A : Nat → Addr} {d g m : Nat} {D : Dk} {w : World} (w' : World) (h : D.power.down = false) (h1 : DiskAt w' d g m D.power.flush) (h2 : Trd (dskB d g m) w w') : FlushAt A d g m D w (.returned .nilIface) w' :=
  ⟨by simp only [flC, h]; rfl, by simp only [flD, h]; exact h1, h2⟩

/-- what the sectors hold while some are still to come. -/
def flL (D : Dk) (left : Lit → Bool) (i : Nat) : List Int := if left (.int .i64 i) = true then D.fl i else D.see i
theorem flL_start (D : Dk) : flL D (Maps.has (dat D.ps)) = D.fl := by
  funext i
  unfold flL Dk.see
  rw [dat_has]
  cases pget D.ps i <;> simp
theorem flL_end {D : Dk} {left : Lit → Bool} (h : ∀ kl, left kl = false) : flL D left = D.see := by
  funext i
  simp [flL, h]
theorem flL_step {D : Dk} {left : Lit → Bool} {k : Nat} {s : List Int} (hs : pget D.ps k = some s) : flL D (fun z => left z && !z.sameKey (.int .i64 (k : Int))) = upd (flL D left) k s := by
  funext j
  unfold upd flL
  simp only [sameKey_i]
  by_cases e : j = k
  · subst e
    simp [Dk.see, hs]
  · have : ¬ (j : Int) = (k : Int) := by omega
    simp [e, this]
def FlushRel (D : Dk) (d g m r : Nat) (w0 : World) (left : Lit → Bool) (cnt : Nat) (w : World) : Prop :=
  w.ranges Tryd.prog 3 secR m r D.ps.length (dat D.ps) left cnt ∧ DiskAt w d g m { D with fl := flL D left } ∧ Trd (dskB d g m) w0 w ∧ w0.heap.size ≤ r
/-- a key that comes. -/
theorem flush_key {D : Dk} {kl : Lit} {x : Int} {s : List Int} {y : DataW (List Int) × List MemPlace} (hk : keyOf Tryd.prog 3 (.int .i64 x) = some kl) (hat : ∀ zd, (dat D.ps).atKey kl zd = y.1) (hy : secR (aggV s) = some y) (hok : D.Ok) :
    ∃ k : Nat, x = k ∧ kl = .int .i64 (k : Int) ∧ k < D.n ∧ pget D.ps k = some s ∧ secOk s := by
  obtain ⟨x', e, rfl, _⟩ := Maps.keyOf_i64 Tryd.underlying3 hk
  obtain rfl := encZ_inj e
  obtain ⟨xs, e1, rfl, hs⟩ := secR_inv hy
  have e2 : xs = s := by
    have h2 := congrArg (fun a : Array Value => a.toList.map byteOf) (Value.agg.inj e1)
    simpa [secV, byteOf, Function.comp_def] using h2.symm
  subst e2
  have h1 := hat .nil
  rw [dat_atKey] at h1
  cases hp : pget D.ps x with
  | none => rw [hp] at h1; simp at h1
  | some t =>
    rw [hp] at h1
    simp only [Option.map_some, Option.getD_some, DataW.held.injEq] at h1
    subst h1
    obtain ⟨h0, hn, _⟩ := hok.ps _ (pget_mem hp)
    simp only at h0 hn
    obtain ⟨k, rfl⟩ : ∃ k : Nat, x = k := ⟨x.toNat, by omega⟩
    exact ⟨k, rfl, rfl, by omega, hp, hs⟩
/-- behind a step. -/
theorem iter_apart {H : Type} {P : Program} {k : TypeId} {R : Value → Option (DataW H × List MemPlace)} {w : World} {b r n : Nat} {D0 : DataW H} {left : Lit → Bool} {cnt d g m : Nat} {D : Dk} (h : w.ranges P k R b r n D0 left cnt) (hd : DiskAt w d g m D) : r ≠ d ∧ r ≠ g ∧ r ≠ m := by
  obtain ⟨es, clock, since, seen, c0, h1, F, hs, hD, h2, rest⟩ := h
  refine ⟨fun e => ?_, fun e => ?_, fun e => ?_⟩
  · obtain ⟨cap, hc⟩ := hd.cells
    rw [← e, h2] at hc
    cases hc
  · obtain ⟨u, hu⟩ := Option.isSome_iff_exists.1 ((hd.rows 0 hd.ok.n0).2 0 (by omega)).1
    simp [World.cell?, ← e, h2] at hu
  · obtain ⟨es', clock', h3, _⟩ := hd.map
    rw [← e, h2] at h3
    cases h3
theorem flush_next {D : Dk} {d g m r : Nat} {w0 w w1 : World} {left : Lit → Bool} {cnt : Nat} (h : FlushRel D d g m r w0 left cnt w) (hg : w.grownBy w1 (some r)) : DiskAt w1 d g m { D with fl := flL D left } ∧ Trd (dskB d g m) w0 w1 := by
  obtain ⟨h1, h2, h3, h4⟩ := h
  have ht : Trd (· = r) w w1 := Trd.grown hg (fun k hk => by cases hk; rfl)
  obtain ⟨a1, a2, a3⟩ := iter_apart h1 h2
  refine ⟨h2.trd ht (Ne.symm a1) (Ne.symm a2) (Ne.symm a3), ⟨hg.os.trans h3.os, hg.tape.trans h3.tape, hg.output.trans h3.output, Nat.le_trans h3.size hg.size, fun k hk hn => ?_⟩⟩
  rw [hg.block k (Nat.lt_of_lt_of_le hk h3.size) (fun e => by have := Option.some.inj e; omega)]
  exact h3.block k hk hn
/-- the round's end. -/
theorem flush_store {D : Dk} {d g m r : Nat} {w0 w1 : World} {left : Lit → Bool} {cnt k : Nat} {s : List Int} (hr : w0.heap.size ≤ r) (hd : DiskAt w1 d g m { D with fl := flL D left }) (ht : Trd (dskB d g m) w0 w1) (hok : D.Ok)
    (hrg : w1.ranges Tryd.prog 3 secR m r D.ps.length (dat D.ps) (fun z => left z && !z.sameKey (.int .i64 (k : Int))) cnt) (hk : k < D.n) (hs : pget D.ps k = some s) (hsec : secOk s) (e : TypeId) :
    FlushRel D d g m r w0 (fun z => left z && !z.sameKey (.int .i64 (k : Int))) cnt ((w1.alloc (.cells (secV s).toArray e)).drew.setCells g (k * 128) (secV s)) := by
  obtain ⟨a1, a2, a3⟩ := iter_apart hrg hd
  have hgl := hd.glt
  have hdl := hd.dlt
  have hml := hd.mlt
  have hrl := hrg.lt
  have hW : ∀ j, j < w1.heap.size → (w1.alloc (.cells (secV s).toArray e)).drew.heap[j]? = w1.heap[j]? := fun j hj => Below.heap_alloc _ _ _ hj
  have hd2 : DiskAt (w1.alloc (.cells (secV s).toArray e)).drew d g m { D with fl := flL D left } := (hd.below ((Below.refl w1.heap.size w1).alloc (Nat.le_refl _) _) (Nat.le_refl _)).same rfl
  have hlen : ∀ j, j < D.n → (flL D left j).length = 128 := fun j hj => (hd.ok.fl j hj).1
  have hrow := hd2.rows.store hk hlen hsec.1
  refine ⟨ranges_block hrg ?_ ?_, ?_, ?_, hr⟩
  · rw [heap_setCells_other _ _ _ _ _ (Ne.symm hd.gm), hW _ hml]
  · rw [heap_setCells_other _ _ _ _ _ a2, hW _ hrl]
  · rw [flL_step hs]
    refine hd2.setRow hrow fun j hj => ?_
    unfold upd
    split
    · exact hsec
    · exact hd.ok.fl j hj
  · exact ((ht.trans (Trd.alloc _ _)).trans (Trd.drew _)).trans (Trd.setCells (.inr (.inl rfl)) _ _ _)
theorem DiskAt.clear {w w' : World} {d g m : Nat} {D : Dk} (h : DiskAt w d g m D) (hm : w'.ownsMap Tryd.prog 3 secR m 0 (.map [])) (hg : w.grownBy w' (some m)) : DiskAt w' d g m { D with ps := [] } := by
  have hb : ∀ k, k < w.heap.size → k ≠ m → w'.heap[k]? = w.heap[k]? := fun k hk hne => hg.block k hk (fun e => hne (Option.some.inj e))
  obtain ⟨cap, hc⟩ := h.cells
  exact ⟨⟨h.ok.n0, h.ok.n1, h.ok.fl, fun p hp => absurd hp List.not_mem_nil, List.Pairwise.nil, h.ok.armed⟩, h.dg, ⟨cap, by rw [hb _ h.dlt h.dm]; exact hc⟩, h.rows.block (hb _ h.glt h.gm), hm⟩

/-- what the store's statement reads and writes. -/
abbrev FlushS (d g n cap k B : Nat) (s : List Int) (w : World) : Prop := w.cell? ⟨d, 0, none⟩ = some (.slice (some ⟨g, 0, none⟩) n cap) ∧ w.rangeAt B 0 (secV s) ∧ w.there g (k * 128) 128
theorem flushS_of {w w1 : World} {d g m k B cap : Nat} {D : Dk} {s : List Int} (h : DiskAt w1 d g m D) (hd : w1.heap[d]? = w.heap[d]?) (hc : w.cell? ⟨d, 0, none⟩ = some (.slice (some ⟨g, 0, none⟩) D.n cap)) (hk : k < D.n) {e : TypeId} (hB : w1.heap[B]? = some (.cells (secV s).toArray e (0, 0))) : FlushS d g D.n cap k B s w1 := by
  refine ⟨by rw [World.cell?_of_block (w := w) hd]; exact hc, fun j v hv => ?_, (h.rows k hk).2⟩
  rw [cell_of_row _ _ _ _ _ _ hB]
  simpa using hv
set_option maxRecDepth 100000 in
set_option maxHeartbeats 4000000 in
theorem flush_any (A : Nat → Addr) {w : World} {d g m : Nat} {D : Dk} (h : DiskAt w d g m D) (hE : ErrsOn [8] w A) :
    Calls Tryd.prog 22 #[.pointer (some ⟨d, 0, none⟩)] w (FlushAt A d g m D w) := by
  have hp := hidden (powered_any h)
  have hE' := hidden (fun w' ht => hE.disk h (w' := w') ht)
  clear h hE
  have hfd := hidden (@fl_down A d g m D w)
  have hff := hidden (@fl_fine A d g m D w)
  generalize hD : D.power = D1 at hp hfd hff
  clear hD
  cases hdn : D1.down with
  | true =>
    rw [hdn] at hp
    replace hdn := hidden hdn
    go_enter Tryd.func22, Tryd.ntmps22
    go_wp2_with (go_at_call 36; refine hp.out.mono ?_; rintro e w1 ⟨rfl, h1, ht1⟩; have k1 := hidden (hE'.out w1 ht1); have c8 := k1.out 8 (by decide); simp [sentG] at c8; replace h1 := hidden h1; replace ht1 := hidden ht1)
    go_ret
    exact hfd.out _ hdn.out h1.out ht1.out
  | false =>
    rw [hdn] at hp
    replace hdn := hidden hdn
    have hu := Tryd.underlying73
    have hz : ∀ W, (zeroValue 73).run Tryd.prog W = .ok (.agg (secV (List.replicate 128 0)).toArray) W := fun W => sec_zero W
    have hZl : (secV (List.replicate 128 0)).toArray.size = 128 := by simp [secV_len]
    generalize List.replicate 128 (0 : Int) = Z at *
    go_enter Tryd.func22, Tryd.ntmps22
    go_wp2_with (first
      | (go_at_call 36; refine hp.out.mono ?_; rintro e w1 ⟨rfl, h1, ht1⟩; obtain ⟨cap, ⟨_, c1, _⟩, _⟩ := h1.five; have hm := h1.map; replace h1 := hidden h1; replace ht1 := hidden ht1)
      | (at_range; refine wpList_range_own _ rfl _ 65 rfl 3 73 sec_key Tryd.underlying65 _ m _ _ rfl hm ?_; intro w0 hrg0 hg0 hs0)
      | go_in)
    go_frame
    have hst : FlushRel D1 d g m w1.heap.size w (Maps.has (dat D1.ps)) (Maps.size (dat D1.ps)) w0 := by
      refine ⟨hrg0, ?_, ht1.out.trans (Trd.grown hg0 (fun k hk => by cases hk)), ht1.out.size⟩
      rw [flL_start]
      exact h1.out.trd (S := fun _ => False) (Trd.grown hg0 (fun k hk => by cases hk)) (fun h => h) (fun h => h) (fun h => h)
    have hok := hidden h1.out.ok
    have hwr := hidden ht1.out.size
    replace hst := hidden hst
    clear hrg0 hg0 hs0 hm c1 h1 ht1 hp hE'
    generalize w1.heap.size = r at hst hwr ⊢
    go_loopw [3] (fun _ wr => ∃ (left : Lit → Bool) (cnt : Nat), FlushRel D1 d g m r w left cnt wr) (fun _ wr => wr.rangeLeft m r)
    case atStart => exact ⟨_, _, hst.out⟩
    case round =>
      clear hst
      obtain ⟨left, cnt, hrel⟩ := hrel
      have hrg := hrel.1
      replace hrel := hidden hrel
      go_wp2_with (first
        | (at_next; refine wpList_next_ranges _ rfl _ rfl 3 sec_key secR (Value.int .i64) aggV (fun key kl hk => by obtain ⟨x, hx, _⟩ := Maps.keyOf_i64 Tryd.underlying3 hk; exact ⟨x, hx⟩) (fun v y hv => by obtain ⟨xs, hx, _⟩ := secR_inv hv; exact ⟨xs, hx⟩) m r _ _ _ _ rfl hrg ?_ ?_)
        | go_in)
      · intro _ hl0
        have hd := hrel.out.2.1
        rw [flL_end hl0] at hd
        have ht := hidden hrel.out.2.2.1
        obtain ⟨cap, ⟨_, c1, _⟩, _⟩ := hd.five
        have hm := hd.map
        replace hd := hidden hd
        clear hrel hrg hl0
        go_wp2_with (first
          | (refine wpList_clear_own rfl _ 65 rfl 3 73 Tryd.underlying65 secR m _ _ rfl hm ?_; intro w2 hm2 hg2; have h2 := hd.out.clear hm2 hg2; have ht2 := hidden (ht.out.trans (Trd.grown hg2 (fun k hk => by cases hk; exact .inr (.inr rfl)))); obtain ⟨cap2, ⟨_, _, e2, _⟩, fz⟩ := h2.five; have f2 := fz 2; clear fz hm2 hg2 hm hd c1; replace h2 := hidden h2)
          | go_in)
        go_ret
        exact hff.out _ hdn.out (h2.out.setCalls _) (ht2.out.trans (Trd.setCell _ _ _ (.inl rfl)))
      · intro x s kl yd yp w1 cnt1 hkey hlk hy hat hrg1 hlt hg1 hs1 hen
        clear hs1
        obtain ⟨k, rfl, rfl, hk, hps, hsec⟩ := flush_key hkey hat hy hok.out
        obtain ⟨hd1, ht1⟩ := flush_next hrel.out hg1
        obtain ⟨cap, ⟨c0, _⟩, _⟩ := hd1.five
        have hend := hidden (flush_store hwr.out hd1 ht1 hok.out hrg1 hk hps hsec 73)
        have hleft := hidden hrg.left_eq
        have hlt' := hidden hlt
        have hsl : (secV s).length = 128 := by rw [secV_len, hsec.1]
        have hsz2 := hidden (show (Tryd.prog.info? 73).map (·.size) = some (secV s).toArray.size by rw [sec_size]; simp [hsl])
        have hsz : (Tryd.prog.info? 73).map (·.size) = some (secV s).length := by rw [sec_size, hsl]
        have hq2 := hidden (show (secV Z).toArray.size = (secV s).toArray.size by rw [hZl]; simp [hsl])
        have hfa := hidden (all_oneCell_toArray (secV_one s))
        have h1c := secV_one s
        have hd2 := hd1.below ((Below.refl w1.heap.size w1).alloc (Nat.le_refl _) (.cells (secV s).toArray 73)) (Nat.le_refl _)
        have hdl := hd1.dlt
        have hB := heap_alloc_new w1 (.cells (secV s).toArray 73)
        have hgl := hd1.glt
        have s0 := hidden (flushS_of (k := k) hd2 (Below.heap_alloc w1 _ d hdl) c0 hk hB)
        have s1 := hidden (flushS_of (w1 := (w1.alloc (.cells (secV s).toArray 73)).drew) (k := k) (hd2.same rfl) (Below.heap_alloc w1 _ d hdl) c0 hk hB)
        have s2 := hidden (flushS_of (w := w1) (k := k) (cap := cap) (B := w1.heap.size) (s := s) hend.out.2.1 (by rw [heap_setCells_other _ _ _ _ _ hd1.dg]; exact Below.heap_alloc w1 _ d hdl) c0 hk (by rw [heap_setCells_other _ _ _ _ _ (by omega)]; exact hB))
        have hk0 : (0 : Int) ≤ (k : Int) := by omega
        have hk9 : (k : Int) < (D1.n : Int) := by omega
        clear hkey hlk hy hat hlt hg1 hrg1 hrg hrel hps hd1 ht1 hd2 hdl hgl hB hsec c0
        go_wp2_with (first
          | (refine wpList_store_new rfl 73 _ _ rfl w1 _ (secV s).toArray rfl rfl hsz2.out hq2.out hfa.out ?_)
          | go_in)
        go_region_held3 (fun w' => w'.cell? ⟨d, 0, none⟩ = some (.slice (some ⟨g, 0, none⟩) D1.n cap) ∧ w'.rangeAt w1.heap.size 0 (secV s) ∧ w'.there g (k * 128) 128) ((first | exact s0.out | exact s1.out | exact s2.out)) (fail)
        go_roundw
        case rel => exact ⟨_, _, _, _, _, _, _, _, _, _, _, _, _, _, ⟨_, cnt1, hend.out⟩, rfl⟩
        case measure => rw [hend.out.1.left_eq, hleft.out]; exact hlt'.out
end Go.Proofs.YtcjjjoodnddoeaaDoor
