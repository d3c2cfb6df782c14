/-
  root.Read.
-/
import Derived.Test.YtcjjjoodnddoeaaDoorRoot2
import Derived.Deep.DeepCutAuto
import Derived.Deep.RegionHeld3
namespace Go.Proofs.YtcjjjoodnddoeaaDoor
open Go.RowKit
set_option linter.unusedVariables false

theorem results_cell2 {P : Program} {fn : Func} {p u : Tmp} {ty : TypeId} (h : fn.results = #[.cell p ty, .tmp u]) (tmps : Array Value) (w : World) (g : Nat) (t : TypeId) (cs : Array Value) (fr : Nat × Nat) (d : TypeDesc)
    (hp : tmps.getD p undef = .pointer (some ⟨g, 0, none⟩)) (hg : w.heap[g]? = some (.cells cs t fr))
    (hu : P.underlying ty = some d) (hd : (match d with | .struct _ | .array _ _ => true | _ => false) = true) (hi : (P.info? ty).map (·.size) = some cs.size) :
    (results fn tmps).run P w = .ok (.tuple #[.agg cs, tmps.getD u undef]) w := by
  have hp' : tmps[p]?.getD undef = .pointer (some ⟨g, 0, none⟩) := by simpa using hp
  simp [results, h, hp', asAddr, run_loadVar_row w g t ty cs fr d hg hu hd hi]
theorem results_cell3 {P : Program} {fn : Func} {p u v : Tmp} {ty : TypeId} (h : fn.results = #[.cell p ty, .tmp u, .tmp v]) (tmps : Array Value) (w : World) (g : Nat) (t : TypeId) (cs : Array Value) (fr : Nat × Nat) (d : TypeDesc)
    (hp : tmps.getD p undef = .pointer (some ⟨g, 0, none⟩)) (hg : w.heap[g]? = some (.cells cs t fr))
    (hu : P.underlying ty = some d) (hd : (match d with | .struct _ | .array _ _ => true | _ => false) = true) (hi : (P.info? ty).map (·.size) = some cs.size) :
    (results fn tmps).run P w = .ok (.tuple #[.agg cs, tmps.getD u undef, tmps.getD v undef]) w := by
  have hp' : tmps[p]?.getD undef = .pointer (some ⟨g, 0, none⟩) := by simpa using hp
  simp [results, h, hp', asAddr, run_loadVar_row w g t ty cs fr d hg hu hd hi]
theorem root_size : (Tryd.prog.info? 30).map (·.size) = some 2 := by kernel_rfl
theorem root_cell2 {fn : Func} {p u : Tmp} (h : fn.results = #[.cell p 30, .tmp u]) (tmps : Array Value) (w : World) (g : Nat) (e : Int) (l : Value)
    (hp : tmps.getD p undef = .pointer (some ⟨g, 0, none⟩)) (hg : w.heap[g]? = some (rtO e l)) : (results fn tmps).run Tryd.prog w = .ok (.tuple #[.agg #[.int .i64 e, l], tmps.getD u undef]) w :=
  results_cell2 h tmps w g _ _ _ _ hp hg Tryd.underlying30 rfl root_size
theorem root_cell3 {fn : Func} {p u v : Tmp} (h : fn.results = #[.cell p 30, .tmp u, .tmp v]) (tmps : Array Value) (w : World) (g : Nat) (e : Int) (l : Value)
    (hp : tmps.getD p undef = .pointer (some ⟨g, 0, none⟩)) (hg : w.heap[g]? = some (rtO e l)) : (results fn tmps).run Tryd.prog w = .ok (.tuple #[.agg #[.int .i64 e, l], tmps.getD u undef, tmps.getD v undef]) w :=
  results_cell3 h tmps w g _ _ _ _ hp hg Tryd.underlying30 rfl root_size
theorem root_end2 {fn : Func} {p u : Tmp} {R : Ending → World → Prop} {a : Act} {w : World} {g : Nat} {e : Int} {l vb : Value} (h : fn.results = #[.cell p 30, .tmp u]) (hd : a.defers = []) (hp : a.tmps.getD p undef = .pointer (some ⟨g, 0, none⟩)) (hb : a.tmps.getD u undef = vb) (hg : w.heap[g]? = some (rtO e l))
    (hR : R (.returned (.tuple #[.agg #[.int .i64 e, l], vb])) w) : bodyPost Tryd.prog fn R .ret a w := by
  subst hb
  exact bodyPost_ret (root_cell2 h _ _ _ _ _ hp hg) hd hR
theorem root_end3 {fn : Func} {p u v : Tmp} {R : Ending → World → Prop} {a : Act} {w : World} {g : Nat} {e : Int} {l vb vc : Value} (h : fn.results = #[.cell p 30, .tmp u, .tmp v]) (hd : a.defers = []) (hp : a.tmps.getD p undef = .pointer (some ⟨g, 0, none⟩)) (hb : a.tmps.getD u undef = vb) (hc : a.tmps.getD v undef = vc) (hg : w.heap[g]? = some (rtO e l))
    (hR : R (.returned (.tuple #[.agg #[.int .i64 e, l], vb, vc])) w) : bodyPost Tryd.prog fn R .ret a w := by
  subst hb hc
  exact bodyPost_ret (root_cell3 h _ _ _ _ _ hp hg) hd hR
/-- a root is stored. -/
theorem root_stored {w : World} {g : Nat} {e0 : Int} {l0 : Value} (hg : w.heap[g]? = some (rtO e0 l0)) (e : Int) (l : Value) : ((w.setCell ⟨g, 0, none⟩ (.int .i64 e)).setCell ⟨g, 1, none⟩ l).heap[g]? = some (rtO e l) := by
  rw [heap_setCell_row (heap_setCell_row hg _)]
  rfl
theorem reads_cap {k : IntKind} {w : World} {a : Option Addr} {n c : Nat} {xs : List Int} (h : Reads k w (.slice a n c) xs) : n ≤ c ∧ c ≤ maxLen := by
  obtain ⟨a', len, cap, e, h1, h2, h3, _⟩ := h
  simp only [Value.slice.injEq] at e
  obtain ⟨rfl, rfl, rfl⟩ := e
  exact ⟨h2, h3⟩
theorem infoI64 : (Tryd.prog.info? 3).map (fun i => (i.zero, i.size, i.bytes)) = some (some (.int .i64 0), 1, 8) := by kernel_rfl
theorem mk_ints (n : Nat) (hn : n ≤ 40) (W : World) : (Instr.makeSlice 22 (.int .i64 n) (.int .i64 n)).run Tryd.prog W = .ok (.slice (some ⟨W.heap.size, 0, none⟩) n n) (W.alloc (.cells ((List.replicate n (0 : Int)).map (Value.int .i64)).toArray 3)) := by
  obtain ⟨i0, hi, hz0, hz1, hz2⟩ := info_parts infoI64
  have := run_make (P := Tryd.prog) W 22 3 i0 _ Tryd.underlying22 hi hz0 .i64 .i64 n n (by omega) (by omega) (by rw [hz2]; omega) (by omega)
  rw [this, Int.toNat_natCast, hz1, Nat.mul_one]
  have e : madeCells (Value.int .i64 0).cells n = ((List.replicate n (0 : Int)).map (Value.int .i64)).toArray := by
    apply Array.ext'
    show (madeCells #[Value.int .i64 0] n).toList = _
    rw [toList_madeCells_one]
    simp
  rw [e]
abbrev RdS (b o : Nat) (x : Int) (w w' : World) : Prop := w'.cell? ⟨b, o, none⟩ = some (.int .u8 x) ∧ Below w.heap.size w w'
theorem RdS.low {b o : Nat} {x : Int} {w w' : World} (h : RdS b o x w w') : Below w.heap.size w w' := h.2
theorem RdS.alloc {b o : Nat} {x : Int} {w w' : World} (h : RdS b o x w w') (ob : Obj) : RdS b o x w (w'.alloc ob) :=
  ⟨by rw [World.cell?_alloc_lt _ _ _ (World.block_lt_of_cell? w' _ h.1)]; exact h.1, h.2.alloc h.2.size _⟩
theorem RdS.drew {b o : Nat} {x : Int} {w w' : World} (h : RdS b o x w w') : RdS b o x w w'.drew := ⟨h.1, h.2.drew⟩
def RtReadAt (bs : List Int) (w : World) (r : Ending) (w' : World) : Prop :=
  Below w.heap.size w w' ∧ ((∃ e xs v, rootOf bs = some (e, xs) ∧ r = .returned (.tuple #[.agg #[.int .i64 e, v], .bool true]) ∧ Reads .i64 w' v xs ∧ ∀ b, v.ownBlock = some b → w.heap.size ≤ b) ∨ (rootOf bs = none ∧ r = .returned (.tuple #[.agg #[.int .i64 0, .slice none 0 0], .bool false])))
/-- behind the root that Read makes. -/
structure RdAt (e : Int) (ys : List Int) (w : World) (rb gl : Nat) (wx : World) : Prop where
  hb : wx.heap[rb]? = some (.cells #[.int .i64 e, .slice (some ⟨gl, 0, none⟩) ys.length ys.length] 30 (0, 0))
  hl : wx.heap[gl]? = some (.cells (ys.map (Value.int .i64)).toArray 3 (0, 0))
  h0 : wx.heap[w.heap.size]? = some (.cells #[.int .i64 0, .slice none 0 0] 30 (0, 0))
  l1 : w.heap.size < rb
  l2 : w.heap.size < gl
  ne : rb ≠ gl
  low : Below w.heap.size w wx
theorem three_new (w : World) (A B C : Obj) : (((w.alloc A).alloc B).alloc C).drew.heap[w.heap.size]? = some A ∧ (((w.alloc A).alloc B).alloc C).drew.heap[w.heap.size + 1]? = some B ∧ (((w.alloc A).alloc B).alloc C).drew.heap[w.heap.size + 1 + 1]? = some C ∧ Below w.heap.size w (((w.alloc A).alloc B).alloc C).drew := by
  have hs : ∀ (W : World) (o : Obj), (W.alloc o).heap.size = W.heap.size + 1 := fun W o => by simp
  have e1 := heap_alloc_new w A
  have e2 := heap_alloc_new (w.alloc A) B
  have e3 := heap_alloc_new ((w.alloc A).alloc B) C
  rw [hs] at e2
  rw [hs, hs] at e3
  have o : ∀ (W : World) (o : Obj) (i : Nat), i < W.heap.size → (W.alloc o).heap[i]? = W.heap[i]? := fun W o i h => Below.heap_alloc W o i h
  refine ⟨?_, ?_, e3, ((((Below.refl w.heap.size w).alloc (Nat.le_refl _) _).alloc (by simp) _).alloc (by simp; omega) _).drew⟩
  · rw [heap_drew, o _ _ _ (by simp; omega), o _ _ _ (by simp)]; exact e1
  · rw [heap_drew, o _ _ _ (by simp)]; exact e2
theorem rdAt_a (e : Int) (N : Nat) (w : World) : RdAt e (List.replicate N 0) w (w.heap.size + 1 + 1) (w.heap.size + 1) (((w.alloc (.cells #[.int .i64 0, .slice none 0 0] 30)).alloc (.cells (Array.replicate N (.int .i64 0)) 3)).alloc (.cells #[.int .i64 e, .slice (some ⟨w.heap.size + 1, 0, none⟩) N N] 30)).drew := by
  obtain ⟨h1, h2, h3, h4⟩ := three_new w (.cells #[.int .i64 0, .slice none 0 0] 30) (.cells (Array.replicate N (.int .i64 0)) 3) (.cells #[.int .i64 e, .slice (some ⟨w.heap.size + 1, 0, none⟩) N N] 30)
  exact ⟨by rw [h3]; simp, by rw [h2]; simp, h1, by omega, by omega, by omega, h4⟩
theorem rdAt_b (e : Int) (N : Nat) (w : World) : RdAt e (List.replicate N 0) w (w.heap.size + 1) (w.heap.size + 1 + 1) (((w.alloc (.cells #[.int .i64 0, .slice none 0 0] 30)).alloc (.cells #[.int .i64 e, .slice (some ⟨w.heap.size + 1 + 1, 0, none⟩) N N] 30)).alloc (.cells (Array.replicate N (.int .i64 0)) 3)).drew := by
  obtain ⟨h1, h2, h3, h4⟩ := three_new w (.cells #[.int .i64 0, .slice none 0 0] 30) (.cells #[.int .i64 e, .slice (some ⟨w.heap.size + 1 + 1, 0, none⟩) N N] 30) (.cells (Array.replicate N (.int .i64 0)) 3)
  exact ⟨by rw [h2]; simp, by rw [h3]; simp, h1, by omega, by omega, by omega, h4⟩
section
variable {e : Int} {ys : List Int} {w wx wy : World} {rb gl : Nat}
theorem RdAt.below (h : RdAt e ys w rb gl wx) (hb : Below wx.heap.size wx wy) : RdAt e ys w rb gl wy := by
  have l := fun k o (hk : wx.heap[k]? = some o) => hb.block k (Array.getElem?_eq_some_iff.1 hk).1
  exact ⟨(l _ _ h.hb).trans h.hb, (l _ _ h.hl).trans h.hl, (l _ _ h.h0).trans h.h0, h.l1, h.l2, h.ne, h.low.trans (hb.mono h.low.size)⟩
theorem RdAt.set (h : RdAt e ys w rb gl wx) (k : Nat) (x : Int) : RdAt e (ys.set k x) w rb gl (wx.setCell ⟨gl, k, none⟩ (.int .i64 x)) := by
  have o := fun j (hj : j ≠ gl) => Below.heap_setCell wx ⟨gl, k, none⟩ (.int .i64 x) j hj
  refine ⟨?_, ?_, ?_, h.l1, h.l2, h.ne, h.low.setCell (Nat.le_of_lt h.l2) _⟩
  · rw [o rb h.ne, h.hb]; simp
  · rw [heap_setCell_row h.hl]; simp
  · rw [o _ (by have := h.l2; omega)]; exact h.h0
theorem RdAt.c0 (h : RdAt e ys w rb gl wx) : wx.cell? ⟨rb, 0, none⟩ = some (.int .i64 e) := by rw [cell_of_row _ _ _ _ _ _ h.hb]; rfl
theorem RdAt.c1 (h : RdAt e ys w rb gl wx) : wx.cell? ⟨rb, 1, none⟩ = some (.slice (some ⟨gl, 0, none⟩) ys.length ys.length) := by rw [cell_of_row _ _ _ _ _ _ h.hb]; rfl
theorem RdAt.d0 (h : RdAt e ys w rb gl wx) : wx.cell? ⟨w.heap.size, 0, none⟩ = some (.int .i64 0) := by rw [cell_of_row _ _ _ _ _ _ h.h0]; rfl
theorem RdAt.d1 (h : RdAt e ys w rb gl wx) : wx.cell? ⟨w.heap.size, 1, none⟩ = some (.slice none 0 0) := by rw [cell_of_row _ _ _ _ _ _ h.h0]; rfl
theorem RdAt.f0 (h : RdAt e ys w rb gl wx) (j : Nat) : wx.frozen? ⟨w.heap.size, j, none⟩ = false := by simp [World.frozen?, h.h0]
theorem RdAt.fl (h : RdAt e ys w rb gl wx) (j : Nat) : wx.frozen? ⟨gl, j, none⟩ = false := by simp [World.frozen?, h.hl]
theorem RdAt.cl (h : RdAt e ys w rb gl wx) {j : Nat} (hj : j < ys.length) : wx.cell? ⟨gl, j, none⟩ = some (.int .i64 (ys.getD j 0)) := by
  rw [cell_of_row _ _ _ _ _ _ h.hl, List.getElem?_toArray, List.getElem?_map, List.getD_eq_getElem?_getD, List.getElem?_eq_getElem hj]
  rfl
theorem RdAt.rd (h : RdAt e ys w rb gl wx) (hy : ys.length ≤ 1000000) : Reads .i64 wx (.slice (some ⟨gl, 0, none⟩) ys.length ys.length) ys := reads_block h.hl rfl hy
theorem RdAt.setR (h : RdAt e ys w rb gl wx) (e' : Int) (l : Value) (hy : ys.length ≤ 1000000) : Reads .i64 ((wx.setCell ⟨w.heap.size, 0, none⟩ (.int .i64 e')).setCell ⟨w.heap.size, 1, none⟩ l) (.slice (some ⟨gl, 0, none⟩) ys.length ys.length) ys := by
  refine reads_block (e := 3) ?_ rfl hy
  have := h.l2
  rw [Below.heap_setCell _ _ _ _ (by show gl ≠ w.heap.size; omega), Below.heap_setCell _ _ _ _ (by show gl ≠ w.heap.size; omega)]
  exact h.hl
end
theorem rd_keep {w : World} {rb gl k : Nat} {v u : Value} (h : w.cell? ⟨rb, 1, none⟩ = some v) (hne : rb ≠ gl) : (w.setCell ⟨gl, k, none⟩ u).cell? ⟨rb, 1, none⟩ = some v := by
  rw [World.cell?_of_block (w := w) (Below.heap_setCell _ _ _ _ hne)]; exact h
/-- behind k of the numbers. -/
def rdL (bs : List Int) (N k : Nat) : List Int := (List.range N).map fun i => if i < k then dcI bs i else 0
theorem rdL_len (bs : List Int) (N k : Nat) : (rdL bs N k).length = N := by simp [rdL]
theorem rdL_zero (bs : List Int) (N : Nat) : rdL bs N 0 = List.replicate N 0 := by simp [rdL, List.map_const']
theorem rdL_end (bs : List Int) (N : Nat) : rdL bs N N = (List.range N).map (dcI bs) := List.map_congr_left fun i hi => if_pos (List.mem_range.1 hi)
theorem rdL_set {bs : List Int} {N k : Nat} (hk : k < N) : (rdL bs N k).set k (dcI bs k) = rdL bs N (k + 1) := by
  refine List.ext_getElem (by simp [rdL]) fun i h1 h2 => ?_
  rw [List.getElem_set]
  simp only [rdL, List.getElem_map, List.getElem_range]
  split
  · subst_vars; rw [if_pos (by omega)]
  · by_cases h : i < k
    · rw [if_pos h, if_pos (by omega)]
    · rw [if_neg h, if_neg (by omega)]
def RdRel (bs : List Int) (e : Int) (N : Nat) (w : World) (rb gl : Nat) (i : Value) (wx : World) : Prop := ∃ k : Nat, k ≤ N ∧ i = .int .i64 (k : Int) ∧ RdAt e (rdL bs N k) w rb gl wx
theorem rt_none {bs : List Int} (h : rtC (dcE bs) (dcX bs) ≠ 0 ∨ rtB (dcE bs) (dcX bs) ≠ bs) : rootOf bs = none := by
  rw [rootOf, if_neg]
  rintro ⟨_, h1, h2⟩
  rcases h with h | h
  · exact h h1
  · exact h h2
theorem rt_some {bs : List Int} (h0 : bs.length = 128) (h1 : rtC (dcE bs) (dcX bs) = 0) (h2 : rtB (dcE bs) (dcX bs) = bs) : rootOf bs = some (dcE bs, dcX bs) := by rw [rootOf, if_pos ⟨h0, h1, h2⟩]
theorem rtRead_short {bs : List Int} {w w' : World} (h : rootOf bs = none) (hb : Below w.heap.size w w') : RtReadAt bs w (.returned (.tuple #[.agg #[.int .i64 0, .slice none 0 0], .bool false])) w' := ⟨hb, .inr ⟨h, rfl⟩⟩
set_option maxRecDepth 100000 in
set_option maxHeartbeats 1600000 in
theorem rtRead_any (A : Nat → Addr) (v : Value) (bs : List Int) (w : World) (hr : Reads .u8 w v bs) (hE : ErrsOn [2, 4] w A) (hb : ∀ x ∈ bs, 0 ≤ x ∧ x < 256) :
    Calls Tryd.prog 11 #[v] w (RtReadAt bs w) := by
  obtain ⟨a, c, rfl⟩ := reads_slice hr
  by_cases hl : bs.length = 128
  · have hlI : (bs.length : Int) = 128 := by omega
    have hB := hidden hb
    go_enter Tryd.func11, Tryd.ntmps11
    rw [hl] at hr ⊢
    obtain ⟨b, o, rfl, c6⟩ := hr.cell 6 (by omega)
    obtain ⟨hc1, hc2⟩ := reads_cap hr
    have hc3 : (128 : Int) ≤ (c : Int) := by omega
    have hc5 : (6 : Int) ≤ (c : Int) := by omega
    have hc4 := hidden hc2
    clear hc2
    have hr0 := hidden hr
    have hx6 := hb (bs.getD 6 0) (by rw [List.getD_eq_getElem?_getD, List.getElem?_eq_getElem (by omega)]; exact List.getElem_mem (by omega))
    have hnN := hidden (show dcN bs = min (bs.getD 6 0).toNat 40 from rfl)
    generalize bs.getD 6 0 = x at *
    have hmin : (if (40 : Int) < IntKind.i64.wrap x then (40 : Int) else IntKind.i64.wrap x) = (dcN bs : Int) := by
      rw [hnN.out, show IntKind.i64.wrap x = x by rw [IntKind.wrap_i64]; omega]
      split <;> omega
    replace hmin := hidden hmin
    have hN40 : dcN bs ≤ 40 := by rw [hnN.out]; omega
    have hN0 : (0 : Int) ≤ (dcN bs : Int) := by omega
    have hmk := mk_ints (dcN bs) hN40
    have hX := hidden (show dcX bs = (List.range (dcN bs)).map (dcI bs) from rfl)
    clear hnN
    generalize dcN bs = N at *
    go_upto_region 3 with fail
    go_cut [4] (fun s4 wx => ∃ rb gl, s4 = .pointer (some ⟨rb, 0, none⟩) ∧ RdAt (dcE bs) (rdL bs N 0) w rb gl wx)
    case first =>
      have s0 := hidden (show RdS b (o + 6) x w w from ⟨c6, Below.refl _ _⟩)
      have hn := hidden (fun W hW => number6_any _ _ W (reads_take (hr0.out.below (w' := W) hW (Nat.le_refl _)) (m := 6) (by omega)) (by simp; omega) (fun x hx => hB.out x (List.mem_of_mem_take hx)))
      have ra := hidden (rdAt_a (dcE bs) N w)
      have rb := hidden (rdAt_b (dcE bs) N w)
      rw [← rdL_zero bs N] at ra rb
      have hmin2 := hmin.out
      go_region_held3 (fun w' => w'.cell? ⟨b, o + 6, none⟩ = some (.int .u8 x) ∧ Below w.heap.size w w')
        ((first | exact RdS.drew (RdS.alloc s0.out _) | exact RdS.drew (RdS.alloc (RdS.alloc s0.out _) _) | exact RdS.drew (RdS.alloc (RdS.alloc (RdS.alloc s0.out _) _) _)))
        (first | (go_at_call 29; refine (hn.out _ (by exact RdS.low (by assumption))).mono ?_; rintro r w' ⟨rfl, rfl⟩))
      all_goals (go_wp2_with fail; go_meet; first | exact ⟨_, _, rfl, ra.out⟩ | exact ⟨_, _, rfl, rb.out⟩)
    case rest =>
      obtain ⟨rb, gl, rfl, hcut⟩ := hcut
      clear hmin hmk hr hb hx6 c6
      have c1 := hcut.c1
      rw [rdL_len] at c1
      replace hcut := hidden hcut
      go_wp2_with fail
      go_loopw [25] (fun i wr => RdRel bs (dcE bs) N w rb gl i wr) (fun i _ => N - (RowKit.intOf i).toNat)
      case atStart => exact ⟨0, Nat.zero_le _, rfl, hcut.out⟩
      case round =>
        clear hcut c1
        obtain ⟨k, hk, rfl, hR⟩ := hrel
        by_cases hlt : k < N
        · have hki : (k : Int) < (N : Int) := by omega
          have hk0 : (0 : Int) ≤ (k : Int) := by omega
          have c1 : wr.drew.cell? ⟨rb, 1, none⟩ = some (.slice (some ⟨gl, 0, none⟩) N N) := by have := hR.c1; rw [rdL_len] at this; exact this
          have cl : wr.drew.cell? ⟨gl, k, none⟩ = some (.int .i64 ((rdL bs N k).getD k 0)) := hR.cl (by rw [rdL_len]; exact hlt)
          have fl : wr.drew.frozen? ⟨gl, k, none⟩ = false := hR.fl k
          have hI := hidden (fun W => item_any b o c k W (by omega) hc1 hc4.out)
          have hn := hidden (number6_any _ _ wr.drew (reads_part (at_ := 7 + 2 * k) (m := 2) (c' := c - (7 + 2 * k)) (hr0.out.below (w' := wr.drew) (hR.low.drew) (Nat.le_refl _)) (by omega) (by omega) (by omega)) (by simp; omega) (fun x hx => hB.out x (List.mem_of_mem_drop (List.mem_of_mem_take hx))))
          have hR2 := hidden (hR.set k (dcI bs k))
          rw [rdL_set hlt] at hR2
          have hdc := hidden (show unlob ((bs.drop (7 + 2 * k)).take 2) = dcI bs k from rfl)
          have hne := hidden hR.ne
          generalize (rdL bs N k).getD k 0 = y at cl
          clear hR
          go_wp2_with fail
          go_region_held3 (fun w' => w'.cell? ⟨rb, 1, none⟩ = some (.slice (some ⟨gl, 0, none⟩) N N))
            ((first | exact c1 | exact rd_keep c1 hne.out))
            (first
              | (go_at_call 25; refine (hI.out _).mono ?_; rintro r w' ⟨rfl, rfl⟩)
              | (go_at_call 29; refine hn.out.mono ?_; rintro r w' ⟨rfl, rfl⟩))
          replace hR2 := hidden (hR2.out.below ((Below.refl _ _).drew))
          rw [hdc.out] at *
          go_wp2
          go_roundw
          case rel => exact ⟨k + 1, hlt, by go_num, hR2.out⟩
          case measure => simp [RowKit.intOf]; omega
        · obtain rfl : k = N := by omega
          rw [rdL_end, ← hX.out] at hR
          have hyl : (dcX bs).length = k := by rw [hX.out]; simp
          have c0 := hR.c0
          have c1 := hR.c1
          have hrd := hR.rd (by omega)
          rw [hyl] at c1 hrd
          have hBy := hidden (rtBytes_any A (dcE bs) _ (dcX bs) wr hrd (hE.below hR.low (Nat.le_refl _)))
          replace hR := hidden hR
          clear hrd hX
          by_cases h0 : rtC (dcE bs) (dcX bs) = 0
          · have hsec := hidden (rtB_ok (rtC_ok.1 h0)).2
            go_wp2_with fail
            refine hBy.out.mono ?_
            rintro r w5 ⟨hb5, v5, rfl, hv5⟩
            rcases hv5 with ⟨_, g, rfl, hg, hB5⟩ | ⟨hne, _⟩
            · have h5 := hidden (hR.out.below hb5)
              have he0 : errOf A (rtC (dcE bs) (dcX bs)) = .nilIface := by rw [h0]; rfl
              rw [he0]
              have hEq := hidden (bytesEqual_any _ _ (rtB (dcE bs) (dcX bs)) bs w5 (hB5.reads (by exact (rtB_ok (rtC_ok.1 h0)).1) (by decide)) (hr0.out.below h5.out.low (Nat.le_refl _)) hsec.out hB.out)
              have d0 := h5.out.d0
              have d1 := h5.out.d1
              have f0 := h5.out.f0 0
              have f1 := h5.out.f0 1
              have e0 := h5.out.c0
              have e1 := h5.out.c1
              rw [hyl] at e1
              by_cases hwh : rtB (dcE bs) (dcX bs) = bs
              · rw [decide_eq_true hwh] at hEq
                have hsm := hidden (rt_some hl h0 hwh)
                replace hwh := hidden hwh
                replace h0 := hidden h0
                clear he0 hb5 hBy hB5 hE
                go_wp2_with fail
                refine hEq.out.mono ?_
                rintro r w6 ⟨rfl, rfl⟩
                go_wp2_with fail
                refine root_end2 rfl rfl rfl rfl (root_stored h5.out.h0 _ _) ⟨(h5.out.low.setCell (Nat.le_refl _) _).setCell (Nat.le_refl _) _, .inl ⟨_, _, _, hsm.out, rfl, ?_, fun q hq => by cases hq; exact Nat.le_of_lt h5.out.l2⟩⟩
                have h6 := h5.out.setR (dcE bs) (.slice (some ⟨gl, 0, none⟩) (dcX bs).length (dcX bs).length) (by omega)
                rw [hyl] at h6
                exact h6
              · rw [decide_eq_false hwh] at hEq
                have hsm := hidden (rt_none (.inr hwh))
                replace hwh := hidden hwh
                replace h0 := hidden h0
                clear he0 hb5 hBy hB5 hE
                go_wp2_with fail
                refine hEq.out.mono ?_
                rintro r w6 ⟨rfl, rfl⟩
                go_wp2_with fail
                exact root_end2 rfl rfl rfl rfl (root_stored h5.out.h0 _ _) (rtRead_short hsm.out ((h5.out.low.setCell (Nat.le_refl _) _).setCell (Nat.le_refl _) _))
            · exact absurd h0 hne
          · have hsm := hidden (rt_none (.inl h0))
            obtain ⟨j, hj⟩ : ∃ j, errOf A (rtC (dcE bs) (dcX bs)) = errAt (A j) := ⟨_, by rw [errOf, if_neg h0]⟩
            replace h0 := hidden h0
            go_wp2_with fail
            refine hBy.out.mono ?_
            rintro r w5 ⟨hb5, v5, rfl, hv5⟩
            rcases hv5 with ⟨hne, _⟩ | ⟨_, rfl⟩
            · exact absurd hne h0.out
            · have h5 := hidden (hR.out.below hb5)
              rw [hj]
              have d0 := h5.out.d0
              have d1 := h5.out.d1
              have f0 := h5.out.f0 0
              have f1 := h5.out.f0 1
              clear hb5 hBy hE hj
              go_wp2_with fail
              exact root_end2 rfl rfl rfl rfl (root_stored h5.out.h0 _ _) (rtRead_short hsm.out ((h5.out.low.setCell (Nat.le_refl _) _).setCell (Nat.le_refl _) _))
  · have hlI : ((bs.length : Int) != 128) = true := by rw [bne_iff_ne]; omega
    have hn := hidden (rootOf_len hl)
    have hb0 := hidden (fun o => (Below.refl w.heap.size w).alloc (Nat.le_refl _) o)
    have hg := hidden (fun o => heap_alloc_new w o)
    clear hl hr hb hE
    go_enter Tryd.func11, Tryd.ntmps11
    go_wp2
    exact root_end2 rfl rfl rfl rfl (hg.out _) (rtRead_short hn.out (hb0.out _))
end Go.Proofs.YtcjjjoodnddoeaaDoor
