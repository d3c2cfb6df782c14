/-
  root.Bytes.
-/
import Derived.Test.YtcjjjoodnddoeaaDoorRoot1
import Derived.Test.YtcjjjoodnddoeaaDoorDisk2
namespace Go.Proofs.YtcjjjoodnddoeaaDoor
open Go.RowKit
set_option linter.unusedVariables false

theorem ByteAt.reads {w : World} {g : Nat} {bs : List Int} {n : Nat} (h : ByteAt w g bs) (hn : bs.length = n) (hm : n ≤ 1000000) : Reads .u8 w (.slice (some ⟨g, 0, none⟩) n n) bs := reads_block h hn hm
/-- behind k of the numbers. -/
def bytesK (e : Int) (xs : List Int) (k : Nat) : List Int := lob 6 e ++ ((xs.length : Int) :: itms (xs.take k)) ++ List.replicate (121 - 2 * k) 0
theorem bytesK_len {e : Int} {xs : List Int} {k : Nat} (hk : k ≤ xs.length) (h40 : xs.length ≤ 40) : (bytesK e xs k).length = 128 := by
  simp [bytesK, itms_len, lob_len]; omega
theorem bytesK_split {e : Int} {xs : List Int} {k : Nat} (hk : k < xs.length) (h40 : xs.length ≤ 40) : bytesK e xs k = (lob 6 e ++ ((xs.length : Int) :: itms (xs.take k))) ++ List.replicate 2 0 ++ List.replicate (121 - 2 * (k + 1)) 0 := by
  rw [bytesK, show 121 - 2 * k = 2 + (121 - 2 * (k + 1)) by omega, ← List.replicate_append_replicate]
  simp
theorem bytesK_next {e : Int} {xs : List Int} {k : Nat} (hk : k < xs.length) : (lob 6 e ++ ((xs.length : Int) :: itms (xs.take k))) ++ lob 2 (xs.getD k 0) ++ List.replicate (121 - 2 * (k + 1)) 0 = bytesK e xs (k + 1) := by
  rw [bytesK, List.take_succ_eq_append_getElem hk, itms_snoc, List.getD_eq_getElem?_getD, List.getElem?_eq_getElem hk]
  simp
theorem bytesK_at {e : Int} {xs : List Int} {k : Nat} (hk : k ≤ xs.length) : (lob 6 e ++ ((xs.length : Int) :: itms (xs.take k))).length = 7 + 2 * k := by
  simp [itms_len, lob_len]; omega
theorem bytesK_last {e : Int} {xs : List Int} (h40 : xs.length ≤ 40) : bytesK e xs xs.length = (lob 6 e ++ rtM xs) ++ List.replicate 6 0 ++ [] := by
  rw [bytesK, List.take_length, rtM, show 121 - 2 * xs.length = (115 - 2 * xs.length) + 6 by omega, ← List.replicate_append_replicate]
  simp
theorem bytesK_first {e : Int} {xs : List Int} : ([] ++ lob 6 e ++ List.replicate 122 0).set 6 (xs.length : Int) = bytesK e xs 0 := by
  rw [List.nil_append, List.set_append_right _ _ (by simp [lob_len])]
  simp [bytesK, lob_len, itms, List.replicate_succ]
/-- new memory of 128 bytes. -/
theorem byteAt_new {w w1 : World} (hg : w.grownBy w1 none) (ho : w1.ownsRow w.heap.size 5 1 (.slice (some ⟨w.heap.size, 0, none⟩) 128 128) 128 (madeCells #[.int .u8 0] 128).toList) : ByteAt w1 w.heap.size (List.replicate 128 0) ∧ Below w.heap.size w w1 := whole_start hg ho
def BytesAt (A : Nat → Addr) (e : Int) (xs : List Int) (w : World) (r : Ending) (w' : World) : Prop :=
  Below w.heap.size w w' ∧ ∃ v, r = .returned (.tuple #[v, errOf A (rtC e xs)]) ∧ ((rtC e xs = 0 ∧ ∃ g, v = .slice (some ⟨g, 0, none⟩) 128 128 ∧ w.heap.size ≤ g ∧ ByteAt w' g (rtB e xs)) ∨ (rtC e xs ≠ 0 ∧ v = .slice none 0 0))
def BytesRel (e : Int) (xs : List Int) (g : Nat) (w0 : World) (i : Value) (w : World) : Prop := ∃ k : Nat, k ≤ xs.length ∧ i = .int .i64 (k : Int) ∧ ByteAt w g (bytesK e xs k) ∧ Trd (· = g) w0 w
/-- a root in a block of its own. -/
structure BoxAt (w W : World) (e : Int) (l : Value) : Prop where
  c0 : W.cell? ⟨w.heap.size, 0, none⟩ = some (.int .i64 e)
  c1 : W.cell? ⟨w.heap.size, 1, none⟩ = some l
  low : Below w.heap.size w W
abbrev rtO (e : Int) (l : Value) : Obj := .cells #[.int .i64 e, l] 30
theorem boxAt_of {w W : World} {e : Int} {l : Value} (hb : Below (w.alloc (rtO e l)).heap.size (w.alloc (rtO e l)) W) : BoxAt w W e l := by
  have h1 : W.heap[w.heap.size]? = some (.cells #[.int .i64 e, l] 30 (0, 0)) := by
    rw [hb.block _ (by simp)]
    exact heap_alloc_new w _
  have h2 : Below w.heap.size w W := ((Below.refl w.heap.size w).alloc (Nat.le_refl _) _).trans (hb.mono (by simp))
  refine ⟨?_, ?_, h2⟩ <;> (rw [cell_of_row _ _ _ _ _ _ h1]; rfl)
theorem BoxAt.trd {w W W' : World} {e : Int} {l : Value} {g : Nat} (h : BoxAt w W e l) (ht : Trd (· = g) W W') (hg : w.heap.size < g) : BoxAt w W' e l := by
  have hb : W'.heap[w.heap.size]? = W.heap[w.heap.size]? := ht.block _ (World.block_lt_of_cell? W _ h.c0) (by omega)
  have h2 : Below w.heap.size w W' := h.low.trans (ht.below (fun k hk => by omega) h.low.size)
  refine ⟨?_, ?_, h2⟩
  · rw [World.cell?_of_block (w := W) hb]; exact h.c0
  · rw [World.cell?_of_block (w := W) hb]; exact h.c1
theorem BoxAt.below {w W W' : World} {e : Int} {l : Value} (h : BoxAt w W e l) (ht : Below W.heap.size W W') : BoxAt w W' e l := by
  have hb : W'.heap[w.heap.size]? = W.heap[w.heap.size]? := ht.block _ (World.block_lt_of_cell? W _ h.c0)
  have h2 : Below w.heap.size w W' := h.low.trans (ht.mono h.low.size)
  refine ⟨?_, ?_, h2⟩
  · rw [World.cell?_of_block (w := W) hb]; exact h.c0
  · rw [World.cell?_of_block (w := W) hb]; exact h.c1
theorem put_first {e : Int} {g : Nat} {w : World} (hg : ByteAt w g (List.replicate 128 0)) (c : Nat) (h0 : 0 ≤ e) (h1 : e ≤ 1099511627776) :
    Calls Tryd.prog 24 #[.slice (some ⟨g, 0, none⟩) 6 c, .int .i64 e] w fun r w' => r = .returned (.tuple #[]) ∧ ByteAt w' g ([] ++ lob 6 e ++ List.replicate 122 0) ∧ Trd (· = g) w w' :=
  put_any6 [] (List.replicate 6 0) (List.replicate 122 0) e g c w (by simpa using hg) (by simp) h0 h1 (by simp)
theorem put_next {e x : Int} {xs : List Int} {g k : Nat} {w : World} (hg : ByteAt w g (bytesK e xs k)) (hk : k < xs.length) (h40 : xs.length ≤ 40) (hx : xs.getD k 0 = x) (c : Nat) (h0 : 0 ≤ x) (h1 : x ≤ 8192) :
    Calls Tryd.prog 24 #[.slice (some ⟨g, 7 + 2 * k, none⟩) 2 c, .int .i64 x] w fun r w' => r = .returned (.tuple #[]) ∧ ByteAt w' g (bytesK e xs (k + 1)) ∧ Trd (· = g) w w' := by
  rw [bytesK_split hk h40] at hg
  have := put_any6 _ _ _ x g c w hg (by simp) h0 (by omega) (by rw [bytesK_at (by omega)]; omega)
  rw [bytesK_at (by omega), List.length_replicate] at this
  refine this.mono ?_
  rintro r w' ⟨rfl, h2, h3⟩
  rw [List.length_replicate, ← hx, bytesK_next hk] at h2
  exact ⟨rfl, h2, h3⟩
theorem put_last {e : Int} {xs : List Int} {g : Nat} {w : World} (hg : ByteAt w g (bytesK e xs xs.length)) (h40 : xs.length ≤ 40) (c : Nat) (h0 : 0 ≤ e) (h1 : e ≤ 1099511627776) :
    Calls Tryd.prog 24 #[.slice (some ⟨g, 122, none⟩) 6 c, .int .i64 e] w fun r w' => r = .returned (.tuple #[]) ∧ ByteAt w' g (rtB e xs) ∧ Trd (· = g) w w' := by
  rw [bytesK_last h40] at hg
  have hl : (lob 6 e ++ rtM xs).length = 122 := by simp [lob_len, rtM_len h40]
  have := put_any6 _ _ _ e g c w hg (by simp) h0 h1 (by rw [hl]; omega)
  rw [hl, List.length_replicate] at this
  refine this.mono ?_
  rintro r w' ⟨rfl, h2, h3⟩
  rw [List.length_replicate, List.append_nil] at h2
  exact ⟨rfl, h2, h3⟩
set_option maxRecDepth 100000 in
set_option maxHeartbeats 1600000 in
theorem rtBytes_any (A : Nat → Addr) (e : Int) (lv : Value) (xs : List Int) (w : World) (hr : Reads .i64 w lv xs) (hE : ErrsOn [2, 4] w A) :
    Calls Tryd.prog 8 #[.agg #[.int .i64 e, lv]] w (BytesAt A e xs w) := by
  obtain ⟨a, c, rfl⟩ := reads_slice hr
  obtain ⟨i0, hi, hz0, hz1, hz2⟩ := info_parts (show (Tryd.prog.info? 5).map (fun i => (i.zero, i.size, i.bytes)) = some (some (.int .u8 0), 1, 1) by kernel_rfl)
  have hb0 := hidden ((Below.refl w.heap.size w).alloc (Nat.le_refl _) (rtO e (.slice a xs.length c)))
  have hr0 := hidden (hr.below hb0.out (Nat.le_refl _))
  have hC := hidden (check_any A e (.slice a xs.length c) xs _ hr0.out (hE.below hb0.out (Nat.le_refl _)))
  rcases rtC_code e xs with h0 | h0
  · have hok := rtC_ok.1 h0
    have e0 := hok.e0
    have e1 := hok.e1
    have h40 := hok.len
    have hnum := hidden hok.num
    rw [h0] at hC
    have he0 : errOf A 0 = .nilIface := rfl
    have hend := hidden (show errOf A (rtC e xs) = .nilIface by rw [h0]; rfl)
    have hF := hidden (@bytesK_first e xs)
    replace h0 := hidden h0
    replace hr := hidden hr
    clear hok hE hr0
    go_enter Tryd.func8, Tryd.ntmps8
    go_wp2_with fail
    refine hC.out.mono ?_
    rintro r w1 ⟨rfl, hb1⟩
    rw [he0]
    have hx1 := hidden (boxAt_of hb1)
    have hs1 := hidden (show w.heap.size < w1.heap.size by have := hb1.size; simp at this; omega)
    clear hb1 hC hb0
    go_wp2_with (first | (at_make; refine wpList_make_full _ rfl _ _ 24 rfl w1.heap.size 5 i0 (.int .u8 0) 1 Tryd.underlying24 hi hz0 hz1 .i64 .i64 128 128 128 rfl rfl rfl rfl (by rw [hz2]; decide) (by unfold maxLen; decide) (Nat.le_refl _) ?_; intro w2 hown hgrow; have hst := hidden (byteAt_new hgrow hown); clear hgrow hown))
    have hx2 := hidden (hx1.out.below hst.out.2)
    have c0 : w2.drew.cell? ⟨w.heap.size, 0, none⟩ = some (.int .i64 e) := hx2.out.c0
    have hP := hidden (fun c => put_first (e := e) (w := w2.drew) (hst.out.1.block rfl) c (by omega) e1)
    clear hi hz0 hz1 hz2 i0 hx1
    go_region_held3 (fun w' => w'.cell? ⟨w.heap.size, 0, none⟩ = some (.int .i64 e))
      ((first | exact c0 | exact (hx2.out.trd (g := w1.heap.size) ((Trd.drew w2).trans (by assumption)) hs1.out).c0))
      (first | (go_at_call 24; with_reducible refine (hP.out _).mono ?_; rintro r w3 ⟨rfl, hB3, ht3⟩))
    have hx3 := hx2.out.trd (g := w1.heap.size) ((Trd.drew w2).trans ht3) hs1.out
    have ht3' := hidden ((Trd.drew w2).trans ht3)
    have d0 := hx3.c0
    have d1 := hx3.c1
    have q6 := hB3.cell (i := 6) (by simp [lob_len])
    have f6 := hB3.frozen 6
    have hB4 := hidden (hB3.set 6 (xs.length : Int))
    rw [hF.out] at hB4
    have ht4 := hidden (ht3'.out.trans (Trd.setCell w3 ⟨w1.heap.size, 6, none⟩ (.int .u8 (xs.length : Int)) rfl))
    have hx4 := hidden (hx3.trd (g := w1.heap.size) (Trd.setCell w3 ⟨w1.heap.size, 6, none⟩ (.int .u8 (xs.length : Int)) rfl) hs1.out)
    have d0' := hx4.out.c0
    have d1' := hx4.out.c1
    generalize hv : ([] ++ lob 6 e ++ List.replicate 122 0).getD 6 0 = v at q6
    clear hv hB3 ht3 ht3' hx3 hP hF c0 hx2
    have h40' : (xs.length : Int) ≤ 40 := by omega
    go_wp2_with fail
    clear d0 d1 f6 q6 d0' d1'
    generalize w3.setCell ⟨w1.heap.size, 6, none⟩ (.int .u8 (xs.length : Int)) = w4 at *
    go_loopw [28] (fun i wr => BytesRel e xs w1.heap.size w4 i wr) (fun i _ => xs.length - (RowKit.intOf i).toNat)
    case atStart => exact ⟨0, Nat.zero_le _, rfl, hB4.out, Trd.refl _ _⟩
    case round =>
      clear hB4
      obtain ⟨k, hk, rfl, hb, ht⟩ := hrel
      have hx5 := hidden (hx4.out.trd (g := w1.heap.size) ht hs1.out)
      have ht5 := hidden (ht4.out.trans ht)
      by_cases hlt : k < xs.length
      · obtain ⟨bl, o, rfl, c0⟩ := (hr.out.below hx5.out.low (Nat.le_refl _)).cell k hlt
        have hx := hnum.out (xs.getD k 0) (by rw [List.getD_eq_getElem?_getD, List.getElem?_eq_getElem hlt]; exact List.getElem_mem hlt)
        have hki : (k : Int) < (xs.length : Int) := by omega
        have hP := hidden (fun x (h : xs.getD k 0 = x) c' => put_next (e := e) (x := x) hb hlt h40 h c')
        have hI := hidden (item_any w1.heap.size 0 128 k wr (by omega) (by decide) (by unfold maxLen; decide))
        replace ht := hidden ht
        generalize hv : xs.getD k 0 = x at *
        replace hP := hidden (fun c' => hP.out x rfl c' hx.1 hx.2)
        clear hb hv
        go_wp2_with fail
        refine hI.out.mono ?_
        rintro r w5 ⟨rfl, rfl⟩
        go_wp2_with fail
        with_reducible refine (hP.out _).mono ?_
        rintro r w6 ⟨rfl, hB6, ht6⟩
        replace hB6 := hidden hB6
        replace ht6 := hidden (ht.out.trans ht6)
        go_wp2
        go_roundw
        case rel => exact ⟨k + 1, hlt, by go_num, hB6.out, ht6.out⟩
        case measure => simp [RowKit.intOf]; omega
      · obtain rfl : k = xs.length := by omega
        have hP := hidden (fun c' => put_last (w := wr.drew) (hb.block rfl) h40 c' (e := e) (by omega) e1)
        have c0 : wr.drew.cell? ⟨w.heap.size, 0, none⟩ = some (.int .i64 e) := hx5.out.c0
        clear hb ht hlt hk
        go_wp2_with fail
        go_region_held3 (fun w' => w'.cell? ⟨w.heap.size, 0, none⟩ = some (.int .i64 e))
          ((first | exact c0 | exact (hx5.out.trd (g := w1.heap.size) ((Trd.drew wr).trans (by assumption)) hs1.out).c0))
          (first | (go_at_call 24; with_reducible refine (hP.out _).mono ?_; rintro r w6 ⟨rfl, hB6, ht6⟩))
        have hlow := hidden (hx5.out.trd (g := w1.heap.size) ((Trd.drew wr).trans ht6) hs1.out).low
        replace hB6 := hidden hB6
        clear ht6
        go_wp2
        go_ret2
        exact ⟨hlow.out, _, by rw [h0.out]; rfl, .inl ⟨h0.out, _, rfl, Nat.le_of_lt hs1.out, hB6.out⟩⟩
  · have hne : rtC e xs ≠ 0 := by omega
    have hlow := hidden (fun W h => (boxAt_of (w := w) (W := W) (e := e) (l := .slice a xs.length c) h).low)
    obtain ⟨j, hj⟩ : ∃ j, errOf A (rtC e xs) = errAt (A j) := ⟨_, by rw [errOf, if_neg hne]⟩
    replace hne := hidden hne
    rw [hj] at hC
    replace hj := hidden hj
    clear hi hz0 hz1 hz2 i0 hr hE hr0 hb0 h0
    go_enter Tryd.func8, Tryd.ntmps8
    go_wp2_with fail
    refine hC.out.mono ?_
    rintro r w1 ⟨rfl, hb1⟩
    replace hb1 := hidden (hlow.out _ hb1)
    go_wp2
    go_ret2
    exact ⟨hb1.out, _, by rw [hj.out]; rfl, .inr ⟨hne.out, rfl⟩⟩
end Go.Proofs.YtcjjjoodnddoeaaDoor
