/-
  disk.Crash.
-/
import Derived.Test.YtcjjjoodnddoeaaDoorDisk6
namespace Go.Proofs.YtcjjjoodnddoeaaDoor
open Go.RowKit Go.Maps Go.Shelf Go.Proofs
set_option linter.unusedVariables false

/-! The keys of what is pending, in their order. -/
theorem keys_any (m : Nat) (W : World) : Calls Tryd.prog 33 #[.map (some m)] W fun e w' => e = .returned (.func (.func 42) #[] #[.pointer (some ⟨W.heap.size, 0, none⟩)]) ∧ w' = W.alloc (.cells #[.map (some m)] 65) :=
  (callsIn_wide (n := 5)).1 (AnyZI.keys_in keysA Fence.wide 5 trivial rfl (some m) W)
theorem sorts_any (m : Nat) : AnyZI.SortsIn Tryd.prog sortedA_ren Fence.wide m :=
  ⟨fun blk off cap ss W hH hblk hsz => callsIn_wide.2 (AnyM.slices_Sort_int sortA blk off cap ss W hH hblk hsz),
   fun p cap W => callsIn_wide.2 (AnyM.slices_Sort_int_none sortA p cap W)⟩
theorem sorted_any {w : World} {m k : Nat} {ps : List (Int × List Int)} (hown : w.ownsMap Tryd.prog 3 secR m k (dat ps)) (hr : ps.Pairwise (fun p q => p.1 < q.1)) (hmax : ps.length ≤ 8192) :
    Calls Tryd.prog 32 #[.func (.func 42) #[] #[.pointer (some ⟨w.heap.size, 0, none⟩)]] (w.alloc (.cells #[.map (some m)] 65)) fun e w' =>
      ∃ v, e = .returned v ∧ w'.ownsRow (w.heap.size + 1) 3 1 v ps.length ((ps.map (·.1)).map (Value.int .i64)) ∧ Below (w.heap.size + 1) (w.alloc (.cells #[.map (some m)] 65)) w' := by
  refine (callsIn_wide (n := 5)).1 ?_
  have hbl := hown.lt
  have hseq : SeqGives Fence.wide 2 Tryd.prog 42 #[.pointer (some ⟨w.heap.size, 0, none⟩)] encZ (fun ss => ss.Perm (intKeys (dat ps))) (Maps.size (dat ps)) (w.alloc (.cells #[.map (some m)] 65)) :=
    AnyZI.keys_gives (ρ := keysA_ren) { keysA with } Fence.wide _ trivial rfl (by omega) w.heap.size m k _ _ (by simp) (by simp) (own_block hown (Below.heap_alloc _ _ m hbl))
  have cS := AnyZI.sorted_in sortedA Fence.wide 5 trivial trivial trivial trivial rfl (by omega) (sorts_any _) (enters_of Tryd.func41 (by kernel_rfl) rfl) 42 #[.pointer (some ⟨w.heap.size, 0, none⟩)] trivial (enters_of Tryd.func42 (by kernel_rfl) rfl) _ _ (by rw [dat_size]; unfold maxLen; omega) (by rw [dat_size]; omega) _ hseq
  refine CallsIn.mono cS ?_
  rintro e w' ⟨v, ss, rfl, hS, hrow, hnil, hb⟩
  have hsz : (w.alloc (.cells #[.map (some m)] 65)).heap.size = w.heap.size + 1 := by simp
  rw [hsz] at hrow hb
  rw [dat_keys] at hS
  have hl : ss.length = ps.length := by rw [hS.length_eq]; simp
  have hk := sorted_keys hr hS
  refine ⟨v, rfl, ?_, hb⟩
  rw [hl] at hrow
  have e2 : ss.mergeSort (fun x y => decide (x ≤ y)) = ps.map (·.1) := hk
  rw [e2] at hrow
  exact hrow

/-- 'copy(dst, src)' at a step of a region that draws. -/
theorem step_copy {P : Program} {ops : Array Oper} {o : Oper} {a : Act} {w : World} {K : Act → World → Prop} {Q : Exit → Act → World → Prop} {E : Prop} (hgd : o.guard = none) (d s : Operand) (dT sT : TypeId)
    (ho : o.op = .call { callee := .builtin .copy, args := #[d, s], argTypes := #[dT, sT] }) (elem : TypeId) (hu : P.underlying dT = some (.slice elem)) (hsz : (P.info? elem).map (·.size) = some 1)
    (g off dLen dCap : Nat) (ad : Addr) (sLen sCap : Nat) (hd : a.eval d = .slice (some ⟨g, off, none⟩) dLen dCap) (hs : a.eval s = .slice (some ad) sLen sCap)
    (cs : List Value) (hn : cs.length = Nat.min sLen dLen) (hsrc : ∀ j v, cs[j]? = some v → w.cell? (ad.add j) = some v) (hth : w.there g off cs.length) (h1 : ∀ v ∈ cs, v.oneCell' = true)
    (h : K (a.put o.dst (goInt cs.length)) (w.setCells g off cs)) :
    if Region.wanted o (yielded ops a.tmps) = true then Oper.wp P o a w K Q else E := by
  have hw : Region.wanted o (yielded ops a.tmps) = true := by simp [Region.wanted, hgd]
  rw [if_pos hw]
  have hrun := run_copy_cells (P := P) w dT sT o.type elem g off dLen dCap ad sLen sCap cs hu hsz hn hsrc (fun j hj => (hth j hj).1) (fun j hj => (hth j hj).2) h1
  unfold Oper.wp execOp
  simp only [ho, resolve, invoke, builtin, Sem.run_bind, Sem.run_pure, Result.andThen_ok, List.map_toArray, List.map_cons, List.map_nil, hd, hs, hrun]
  exact h

section
variable {d g n cap k B : Nat} {s : List Int} {w' w'' : World}
theorem FlushS.heap (h : FlushS d g n cap k B s w') (he : w''.heap = w'.heap) : FlushS d g n cap k B s w'' :=
  ⟨by rw [World.cell?_of_block (w := w') (by rw [he])]; exact h.1, rangeAt_block h.2.1 (by rw [he]), there_block h.2.2 (by rw [he])⟩
theorem FlushS.copied (h : FlushS d g n cap k B s w') (hd : d ≠ g) (hB : B ≠ g) (o : Nat) (vs : List Value) : FlushS d g n cap k B s (w'.setCells g o vs) :=
  ⟨by rw [World.cell?_of_block (w := w') (heap_setCells_other _ _ _ _ _ hd)]; exact h.1, rangeAt_block h.2.1 (heap_setCells_other _ _ _ _ _ hB), World.there_setCells h.2.2 _ _ _⟩
theorem FlushS.src (h : FlushS d g n cap k B s w') (r : Nat) : ∀ j v, (secV (s.take r))[j]? = some v → w'.cell? ((⟨B, 0, none⟩ : Addr).add j) = some v := fun j v hv => by
  rw [Addr.add_mid]
  refine h.2.1 j v ?_
  rw [secV, List.map_take, List.getElem?_take] at hv
  split at hv
  · exact hv
  · cases hv
theorem FlushS.dst (h : FlushS d g n cap k B s w') {r : Nat} (hr : r ≤ 128) : w'.there g (k * 128) (secV (s.take r)).length := fun j hj => h.2.2 j (by
  rw [secV_len, List.length_take] at hj
  omega)
end

def CrashAt (D : Dk) (picks : List Int) (d g m : Nat) (w : World) (e : Ending) (w' : World) : Prop := e = .returned (.tuple #[]) ∧ DiskAt w' d g m (D.crash picks) ∧ Trd (dskB d g m) w w'
def CrashRel (D : Dk) (picks : List Int) (d g m : Nat) (w0 : World) (i : Value) (w : World) : Prop :=
  ∃ k : Nat, k ≤ D.ps.length ∧ i = .int .i64 (k : Int) ∧ DiskAt w d g m { D with fl := crN D.ps picks D.fl k } ∧ Trd (dskB d g m) w0 w
/-- the round's end. -/
theorem crash_store {D : Dk} {picks : List Int} {d g m k kk : Nat} {s : List Int} {w0 w W : World} (hd : DiskAt w d g m { D with fl := crN D.ps picks D.fl k }) (ht : Trd (dskB d g m) w0 w) (hk : k < D.ps.length) (h1 : (D.ps.getD k (0, [])).1 = (kk : Int)) (h2 : (D.ps.getD k (0, [])).2 = s) (hkn : kk < D.n) (hsec : secOk s) (hok : D.Ok)
    (e : TypeId) (hb : Below (w.alloc (.cells (secV s).toArray e)).heap.size (w.alloc (.cells (secV s).toArray e)) W) (r : Nat) (hr : rch (picks.getD k 0) = r) :
    DiskAt (W.setCells g (kk * 128) (secV (s.take r))) d g m { D with fl := crN D.ps picks D.fl (k + 1) } ∧ Trd (dskB d g m) w0 (W.setCells g (kk * 128) (secV (s.take r))) := by
  have hd1 := hd.below ((Below.refl w.heap.size w).alloc (Nat.le_refl _) (.cells (secV s).toArray e)) (Nat.le_refl _)
  have hd2 := hd1.below hb (Nat.le_refl _)
  have hlen : ∀ j, j < D.n → (crN D.ps picks D.fl k j).length = 128 := fun j hj => (hd.ok.fl j hj).1
  have hr8 : r ≤ 128 := by rw [← hr]; exact rch_le _
  have hrow := hd2.rows.part hkn hlen hr8 hsec.1
  have e1 : crN D.ps picks D.fl (k + 1) = upd (crN D.ps picks D.fl k) kk (s.take r ++ (crN D.ps picks D.fl k kk).drop r) := by
    show upd _ _ _ = _
    rw [h1, h2, Int.toNat_natCast, mix, hr]
  refine ⟨?_, ((ht.trans (Trd.alloc _ _)).trans (Trd.of_below hb (Nat.le_refl _))).trans (Trd.setCells (.inr (.inl rfl)) _ _ _)⟩
  rw [e1]
  refine hd2.setRow hrow fun j hj => ?_
  rw [← e1]
  exact hok.crN picks (k + 1) (by omega) j hj
theorem pick_out {picks : List Int} {k : Nat} (h : ¬ k < picks.length) : picks.getD k 0 = 0 := by
  rw [List.getD_eq_getElem?_getD, List.getElem?_eq_none (by omega)]; rfl
theorem u8_size : (Tryd.prog.info? 5).map (·.size) = some 1 := by kernel_rfl
end Go.Proofs.YtcjjjoodnddoeaaDoor
