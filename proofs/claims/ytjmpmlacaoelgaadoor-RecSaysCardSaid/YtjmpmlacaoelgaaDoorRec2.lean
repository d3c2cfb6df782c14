/-
  rec.Key, rec.Read.
-/
import Derived.Test.YtjmpmlacaoelgaaDoorRec1
import Derived.RegionTactic
import Derived.ChangeAlike
namespace Go.Proofs.YtjmpmlacaoelgaaDoor
open Go.RowKit
set_option linter.unusedVariables false

abbrev plO (p a b : Int) : Obj := .cells #[.int .i64 p, .int .i64 a, .int .i64 b] 23
abbrev plV (p a b : Int) : Value := .agg #[.int .i64 p, .int .i64 a, .int .i64 b]
/-- a place in a block of its own. -/
structure PlAt (w W : World) (p a b : Int) : Prop where
  c0 : W.cell? ⟨w.heap.size, 0, none⟩ = some (.int .i64 p)
  c1 : W.cell? ⟨w.heap.size, 1, none⟩ = some (.int .i64 a)
  c2 : W.cell? ⟨w.heap.size, 2, none⟩ = some (.int .i64 b)
  low : Below w.heap.size w W
theorem plAt_of {w W : World} {p a b : Int} (hb : Below (w.heap.size + 1) (w.alloc (plO p a b)) W) : PlAt w W p a b := by
  have h1 : W.heap[w.heap.size]? = some (.cells #[.int .i64 p, .int .i64 a, .int .i64 b] 23 (0, 0)) := by
    rw [hb.block _ (by omega)]
    exact heap_alloc_new w _
  have h2 : Below w.heap.size w W := ((Below.refl w.heap.size w).alloc (Nat.le_refl _) _).trans (hb.mono (by omega))
  refine ⟨?_, ?_, ?_, h2⟩ <;> (rw [cell_of_row _ _ _ _ _ _ h1]; rfl)
theorem PlAt.trd {w W W' : World} {p a b : Int} {g : Nat} (h : PlAt w W p a b) (ht : Trd (· = g) W W') (hg : w.heap.size < g) : PlAt w W' p a b := by
  have hb : W'.heap[w.heap.size]? = W.heap[w.heap.size]? := ht.block _ (World.block_lt_of_cell? W _ h.c0) (by omega)
  have h2 : Below w.heap.size w W' := h.low.trans (ht.below (fun k hk => by omega) h.low.size)
  refine ⟨?_, ?_, ?_, h2⟩ <;> rw [World.cell?_of_block (w := W) hb]
  · exact h.c0
  · exact h.c1
  · exact h.c2
theorem PlAt.below {w W W' : World} {p a b : Int} (h : PlAt w W p a b) (ht : Below W.heap.size W W') : PlAt w W' p a b := by
  have hb : W'.heap[w.heap.size]? = W.heap[w.heap.size]? := ht.block _ (World.block_lt_of_cell? W _ h.c0)
  have h2 : Below w.heap.size w W' := h.low.trans (ht.mono h.low.size)
  refine ⟨?_, ?_, ?_, h2⟩ <;> rw [World.cell?_of_block (w := W) hb]
  · exact h.c0
  · exact h.c1
  · exact h.c2
theorem lay_first {p : Int} {g : Nat} {w : World} (hg : ByteAt w g (List.replicate 11 0)) (c : Nat) (h0 : 0 ≤ p) (h1 : p ≤ 255) :
    Calls Tryd.prog 28 #[.slice (some ⟨g, 0, none⟩) 1 c, .int .i64 p] w fun r w' => r = .returned (.tuple #[]) ∧ ByteAt w' g (beb 1 p ++ List.replicate 10 0) ∧ Trd (· = g) w w' :=
  lay_any [] [0] (List.replicate 10 0) p g c w (by simpa using hg) (by simp) h0 (by omega) (by simp)
theorem lay_next {p a : Int} {g : Nat} {w : World} (hg : ByteAt w g (beb 1 p ++ List.replicate 10 0)) (c : Nat) (h0 : 0 ≤ a) (h1 : a ≤ 1099511627775) :
    Calls Tryd.prog 28 #[.slice (some ⟨g, 1, none⟩) 5 c, .int .i64 a] w fun r w' => r = .returned (.tuple #[]) ∧ ByteAt w' g (beb 1 p ++ beb 5 a ++ List.replicate 5 0) ∧ Trd (· = g) w w' :=
  lay_any (beb 1 p) (List.replicate 5 0) (List.replicate 5 0) a g c w (by simpa [beb] using hg) (by simp) h0 (by omega) (by simp [beb])
theorem lay_last {p a b : Int} {g : Nat} {w : World} (hg : ByteAt w g (beb 1 p ++ beb 5 a ++ List.replicate 5 0)) (c : Nat) (h0 : 0 ≤ b) (h1 : b ≤ 1099511627775) :
    Calls Tryd.prog 28 #[.slice (some ⟨g, 6, none⟩) 5 c, .int .i64 b] w fun r w' => r = .returned (.tuple #[]) ∧ ByteAt w' g (keyB p a b) ∧ Trd (· = g) w w' := by
  have := lay_any (beb 1 p ++ beb 5 a) (List.replicate 5 0) [] b g c w (by simpa [beb] using hg) (by simp) h0 (by omega) (by simp [beb])
  have e : (beb 1 p ++ beb 5 a).length = 6 := by simp [beb]
  rw [e, List.length_replicate] at this
  refine this.mono ?_
  rintro r w' ⟨rfl, h2, h3⟩
  rw [List.length_replicate, List.append_nil] at h2
  exact ⟨rfl, h2, h3⟩

/-- Key of a place within its bounds. -/
def KeyAt (p a b : Int) (w : World) (r : Ending) (w' : World) : Prop :=
  ∃ g, r = .returned (.tuple #[.slice (some ⟨g, 0, none⟩) 11 11, .nilIface]) ∧ w.heap.size ≤ g ∧ ByteAt w' g (keyB p a b) ∧ Below w.heap.size w w'
set_option maxRecDepth 100000 in
set_option maxHeartbeats 1600000 in
theorem key_yes (p a b : Int) (w : World) (h : keyOk p a b) : Calls Tryd.prog 8 #[plV p a b] w (KeyAt p a b w) := by
  obtain ⟨p0, p1, a0, a1, b0, b1⟩ := h
  obtain ⟨i0, hi, hz0, hz1, hz2⟩ := info_parts (show (Tryd.prog.info? 5).map (fun i => (i.zero, i.size, i.bytes)) = some (some (.int .u8 0), 1, 1) by kernel_rfl)
  have hP0 := hidden (plAt_of (p := p) (a := a) (b := b) (w := w) (Below.refl _ _))
  go_enter Tryd.func8, Tryd.ntmps8
  go_wp2_with fail
  with_reducible refine (upTo_yes _ _ _ p0 p1).mono ?_
  rintro e w' ⟨rfl, rfl⟩
  go_wp2_with fail
  with_reducible refine (upTo_yes _ _ _ a0 a1).mono ?_
  rintro e w' ⟨rfl, rfl⟩
  go_wp2_with fail
  with_reducible refine (upTo_yes _ _ _ b0 b1).mono ?_
  rintro e w' ⟨rfl, rfl⟩
  go_wp2_with (first | (at_make; refine wpList_make_full _ rfl _ _ 24 rfl (w.alloc (plO p a b)).heap.size 5 i0 (.int .u8 0) 1 Tryd.underlying24 hi hz0 hz1 .i64 .i64 11 11 11 rfl rfl rfl rfl (by rw [hz2]; decide) (by unfold maxLen; decide) (Nat.le_refl _) ?_; intro w2 hown hgrow; have hst := hidden (whole_start hgrow hown); clear hgrow hown))
  have hs : w.heap.size < w.heap.size + 1 := Nat.lt_succ_self _
  have hz : (w.alloc (plO p a b)).heap.size = w.heap.size + 1 := by simp
  rw [hz] at hst
  replace hs := hidden hs
  have hP2 := hidden (plAt_of (p := p) (a := a) (b := b) (w := w) hst.out.2)
  have hB2 := hidden (show ByteAt w2.drew (w.heap.size + 1) (List.replicate 11 0) from hst.out.1)
  have hL1 := hidden (fun c => lay_first hB2.out c p0 p1)
  have c0 : w2.drew.cell? ⟨w.heap.size, 0, none⟩ = some (.int .i64 p) := hP2.out.c0
  clear hz hi hz0 hz1 hz2 i0 hst hP0 hB2
  go_region_held3 (fun w' => w'.cell? ⟨w.heap.size, 0, none⟩ = some (.int .i64 p))
    ((first | exact c0 | exact (hP2.out.trd (g := w.heap.size + 1) ((Trd.drew w2).trans (by assumption)) hs.out).c0))
    (first | (go_at_call 28; with_reducible refine (hL1.out _).mono ?_; rintro r w3 ⟨rfl, hB3, ht3⟩))
  have hP3 := hidden (hP2.out.trd (g := w.heap.size + 1) ((Trd.drew w2).trans ht3) hs.out)
  have c1 : w3.drew.cell? ⟨w.heap.size, 1, none⟩ = some (.int .i64 a) := hP3.out.c1
  have hL2 := hidden (fun c => lay_next (w := w3.drew) hB3 c a0 a1)
  clear c0 hL1 hB3 ht3 hP2
  go_wp2_with fail
  go_region_held3 (fun w' => w'.cell? ⟨w.heap.size, 1, none⟩ = some (.int .i64 a))
    ((first | exact c1 | exact (hP3.out.trd (g := w.heap.size + 1) ((Trd.drew w3).trans (by assumption)) hs.out).c1))
    (first | (go_at_call 28; with_reducible refine (hL2.out _).mono ?_; rintro r w4 ⟨rfl, hB4, ht4⟩))
  have hP4 := hidden (hP3.out.trd (g := w.heap.size + 1) ((Trd.drew w3).trans ht4) hs.out)
  have c2 : w4.drew.cell? ⟨w.heap.size, 2, none⟩ = some (.int .i64 b) := hP4.out.c2
  have hL3 := hidden (fun c => lay_last (w := w4.drew) hB4 c b0 b1)
  clear c1 hL2 hB4 ht4 hP3
  go_wp2_with fail
  go_region_held3 (fun w' => w'.cell? ⟨w.heap.size, 2, none⟩ = some (.int .i64 b))
    ((first | exact c2 | exact (hP4.out.trd (g := w.heap.size + 1) ((Trd.drew w4).trans (by assumption)) hs.out).c2))
    (first | (go_at_call 28; with_reducible refine (hL3.out _).mono ?_; rintro r w5 ⟨rfl, hB5, ht5⟩))
  have hP5 := hidden (hP4.out.trd (g := w.heap.size + 1) ((Trd.drew w4).trans ht5) hs.out).low
  replace hB5 := hidden hB5
  clear c2 hL3 ht5 hP4
  go_wp2
  go_ret2
  exact ⟨_, rfl, Nat.le_of_lt hs.out, hB5.out, hP5.out⟩

/-- Key of a place that is beyond. -/
def KeyNo (A : Nat → Addr) (w : World) (r : Ending) (w' : World) : Prop := r = .returned (.tuple #[.slice none 0 0, errAt (A 2)]) ∧ Below w.heap.size w w'
theorem keyOk_not {p a b : Int} (h : ¬ keyOk p a b) : (p < 0 ∨ 255 < p) ∨ ((0 ≤ p ∧ p ≤ 255) ∧ (a < 0 ∨ 1099511627775 < a)) ∨ ((0 ≤ p ∧ p ≤ 255) ∧ (0 ≤ a ∧ a ≤ 1099511627775) ∧ (b < 0 ∨ 1099511627775 < b)) := by
  unfold keyOk at h
  omega
theorem key_no (A : Nat → Addr) (p a b : Int) (w : World) (h : ¬ keyOk p a b) (hE : ErrsOn [2] w A) : Calls Tryd.prog 8 #[plV p a b] w (KeyNo A w) := by
  have c2 : w.cell? ⟨0, 0, none⟩ = some (errAt (A 2)) := hE 2 (by simp)
  have c3 : (w.alloc (plO p a b)).cell? ⟨0, 0, none⟩ = some (errAt (A 2)) := by
    rw [World.cell?_alloc_lt _ _ _ (World.block_lt_of_cell? w _ c2)]; exact c2
  have hend := hidden (fun n => below_drewN (m := n) ((Below.refl w.heap.size w).alloc (Nat.le_refl _) (plO p a b)))
  clear hE c2
  rcases keyOk_not h with h1 | ⟨⟨p0, p1⟩, h1⟩ | ⟨⟨p0, p1⟩, ⟨a0, a1⟩, h1⟩
  · replace h1 := hidden h1
    clear h
    go_enter Tryd.func8, Tryd.ntmps8
    go_wp2_with fail
    with_reducible refine (upTo_no _ _ _ h1.out).mono ?_
    rintro e w' ⟨rfl, rfl⟩
    go_wp2_with fail
    go_quiet (fail)
    go_wp2
    go_ret2
    exact ⟨rfl, hend.out _⟩
  · replace h1 := hidden h1
    clear h
    go_enter Tryd.func8, Tryd.ntmps8
    go_wp2_with fail
    with_reducible refine (upTo_yes _ _ _ p0 p1).mono ?_
    rintro e w' ⟨rfl, rfl⟩
    go_wp2_with fail
    with_reducible refine (upTo_no _ _ _ h1.out).mono ?_
    rintro e w' ⟨rfl, rfl⟩
    go_wp2_with fail
    go_quiet (fail)
    go_wp2
    go_ret2
    exact ⟨rfl, hend.out _⟩
  · replace h1 := hidden h1
    clear h
    go_enter Tryd.func8, Tryd.ntmps8
    go_wp2_with fail
    with_reducible refine (upTo_yes _ _ _ p0 p1).mono ?_
    rintro e w' ⟨rfl, rfl⟩
    go_wp2_with fail
    with_reducible refine (upTo_yes _ _ _ a0 a1).mono ?_
    rintro e w' ⟨rfl, rfl⟩
    go_wp2_with fail
    with_reducible refine (upTo_no _ _ _ h1.out).mono ?_
    rintro e w' ⟨rfl, rfl⟩
    go_wp2_with fail
    go_quiet (fail)
    go_wp2
    go_ret2
    exact ⟨rfl, hend.out _⟩

/-! Read -/
theorem pl_size : (Tryd.prog.info? 23).map (·.size) = some 3 := by kernel_rfl
theorem pl_end {fn : Func} {p u : Tmp} {R : Ending → World → Prop} {a : Act} {w : World} {g : Nat} {x y z : Int} {vb : Value} (h : fn.results = #[.cell p 23, .tmp u]) (hd : a.defers = []) (hp : a.tmps.getD p undef = .pointer (some ⟨g, 0, none⟩)) (hb : a.tmps.getD u undef = vb) (hg : w.heap[g]? = some (plO x y z))
    (hR : R (.returned (.tuple #[plV x y z, vb])) w) : bodyPost Tryd.prog fn R .ret a w := by
  subst hb
  exact bodyPost_ret (results_cell2 h _ _ _ _ _ _ _ hp hg Tryd.underlying23 rfl pl_size) hd hR
def ReadNo (e : Value) (w : World) (r : Ending) (w' : World) : Prop := r = .returned (.tuple #[plV 0 0 0, e]) ∧ Below w.heap.size w w'
def ReadOk (xs : List Int) (w : World) (r : Ending) (w' : World) : Prop := r = .returned (.tuple #[plV (unbe (xs.take 1)) (unbe (xs.tail.take 5)) (unbe (xs.drop 6)), .nilIface]) ∧ Below w.heap.size w w'
theorem read_end (A : Nat → Addr) (v : Value) (xs : List Int) (w : World) (hr : Reads .u8 w v xs) (hE : ErrsOn [0] w A) (hl : xs.length < 11) : Calls Tryd.prog 12 #[v] w (ReadNo (errAt (A 0)) w) := by
  obtain ⟨a, c, rfl⟩ := reads_slice hr
  have hlI : (xs.length : Int) < 11 := by omega
  have c2 : w.cell? ⟨1, 0, none⟩ = some (errAt (A 0)) := hE 0 (by simp)
  have c3 : (w.alloc (plO 0 0 0)).cell? ⟨1, 0, none⟩ = some (errAt (A 0)) := by
    rw [World.cell?_alloc_lt _ _ _ (World.block_lt_of_cell? w _ c2)]; exact c2
  clear hE hr c2 hl
  go_enter Tryd.func12, Tryd.ntmps12
  go_wp2
  go_region
  all_goals
    go_wp2
    exact pl_end rfl rfl rfl rfl (heap_alloc_new w _) ⟨rfl, ((Below.refl _ w).alloc (Nat.le_refl _) _).drew⟩
theorem read_shape (A : Nat → Addr) (v : Value) (xs : List Int) (w : World) (hr : Reads .u8 w v xs) (hE : ErrsOn [1] w A) (hl : 11 < xs.length) : Calls Tryd.prog 12 #[v] w (ReadNo (errAt (A 1)) w) := by
  obtain ⟨a, c, rfl⟩ := reads_slice hr
  have hlI : (11 : Int) < (xs.length : Int) := by omega
  have c2 : w.cell? ⟨2, 0, none⟩ = some (errAt (A 1)) := hE 1 (by simp)
  have c3 : (w.alloc (plO 0 0 0)).cell? ⟨2, 0, none⟩ = some (errAt (A 1)) := by
    rw [World.cell?_alloc_lt _ _ _ (World.block_lt_of_cell? w _ c2)]; exact c2
  clear hE hr c2 hl
  go_enter Tryd.func12, Tryd.ntmps12
  go_wp2
  go_region
  all_goals
    go_wp2
    exact pl_end rfl rfl rfl rfl (heap_alloc_new w _) ⟨rfl, ((Below.refl _ w).alloc (Nat.le_refl _) _).drew⟩
theorem read_ok (v : Value) (xs : List Int) (w : World) (hr : Reads .u8 w v xs) (hb : ∀ x ∈ xs, 0 ≤ x ∧ x ≤ 255) (hl : xs.length = 11) : Calls Tryd.prog 12 #[v] w (ReadOk xs w) := by
  obtain ⟨a, c, rfl⟩ := reads_slice hr
  rw [hl] at hr ⊢
  obtain ⟨b, o, rfl, _⟩ := hr.cell 0 (by omega)
  obtain ⟨hc1, hc2⟩ := reads_cap hr
  have hc3 : (11 : Int) ≤ (c : Int) := by omega
  have hc4 : ¬ c = 6 := by omega
  have hc5 : (6 : Int) ≤ (c : Int) := by omega
  have hc6 : (1 : Int) ≤ (c : Int) := by omega
  have hlow := hidden ((Below.refl w.heap.size w).alloc (Nat.le_refl _) (plO 0 0 0))
  have hn1 := hidden (fun W (h : Below w.heap.size w W) => number_any9 _ _ W (reads_take (hr.below h (Nat.le_refl _)) (m := 1) (by omega)) (by simp; omega) (fun x hx => hb x (List.mem_of_mem_take hx)))
  have hn2 := hidden (fun W (h : Below w.heap.size w W) => number_any9 _ _ W (reads_part (at_ := 1) (m := 5) (c' := c - 1) (hr.below h (Nat.le_refl _)) (by omega) (by omega) (by omega)) (by simp; omega) (fun x hx => hb x (List.mem_of_mem_drop (List.mem_of_mem_take hx))))
  have e6 : (xs.drop 6).take 5 = xs.drop 6 := List.take_of_length_le (by simp; omega)
  have hn3 := hidden (fun W (h : Below w.heap.size w W) => number_any9 _ _ W (reads_part (at_ := 6) (m := 5) (c' := c - 6) (hr.below h (Nat.le_refl _)) (by omega) (by omega) (by omega)) (by simp; omega) (fun x hx => hb x (List.mem_of_mem_drop (List.mem_of_mem_take hx))))
  rw [e6] at hn3
  rw [List.drop_one] at hn2
  unfold maxLen at hc2
  clear hr hb hl hc1 e6
  go_enter Tryd.func12, Tryd.ntmps12
  go_wp2_with fail
  go_region_held3 (fun w' => Below w.heap.size w w')
    ((first | assumption | exact hlow.out.drew | exact ((Below.refl _ w).alloc (Nat.le_refl _) _).drew))
    (first | (go_at_call 30; with_reducible refine (hn1.out _ (by assumption)).mono ?_; rintro r w3 ⟨rfl, rfl⟩) | (go_at_call 30; with_reducible refine (hn2.out _ (by assumption)).mono ?_; rintro r w3 ⟨rfl, rfl⟩) | (go_at_call 30; with_reducible refine (hn3.out _ (by assumption)).mono ?_; rintro r w3 ⟨rfl, rfl⟩))
  go_wp2
  exact pl_end rfl rfl rfl rfl (heap_alloc_new w _) ⟨rfl, ((Below.refl _ w).alloc (Nat.le_refl _) _).drew⟩
end Go.Proofs.YtjmpmlacaoelgaaDoor
