/-
  The document's own operations (pledgeref26): Read.
-/
import Derived.Test.YtongpgnnhpbcpaaGreatDoorOpRef2
import Derived.Test.YtongpgnnhpbcpaaGreatDoorOpRef3
import Derived.Test.YtongpgnnhpbcpaaGreatDoorOp8
import Derived.Deep.CutBlock
namespace Go.Proofs.YtongpgnnhpbcpaaGreatDoor
open Go.RowKit
set_option linter.unusedVariables false

theorem refR_new25 (w : World) (bv : Value) (xs : List Int) (h : Reads .u8 w bv xs) : RefR (w.alloc (.cells #[bv, .int .i64 0, .int .i64 0, .bool false, .int .i64 0] 81)) w.heap.size bv xs 0 none :=
  ⟨heap_alloc_new w _, fun W hW => h.same fun i hi => (hW i hi).trans (heap_alloc_old w _ hi), Nat.zero_le _⟩
theorem RefR.trd25 {w w' : World} {g p : Nat} {bv : Value} {xs : List Int} {bad : Option Nat} {S : Nat → Prop} (h : RefR w g bv xs p bad) (ht : Trd S w w') (hS : ∀ k, k ≤ g → ¬ S k) : RefR w' g bv xs p bad :=
  ⟨(ht.block g h.lt (hS g (Nat.le_refl _))).trans h.hg, fun W hW => h.rdl W fun i hi => (hW i hi).trans (ht.block i (Nat.lt_trans hi h.lt) (hS i (Nat.le_of_lt hi))), h.le⟩
theorem results_two25 {P : Program} {fn : Func} {p q : Tmp} {ty tz : TypeId} (h : fn.results = #[.cell p ty, .cell q tz]) (tmps : Array Value) (w : World) (g g2 : Nat) (t t2 : TypeId) (cs cs2 : Array Value) (fr fr2 : Nat × Nat) (d d2 : TypeDesc)
    (hp : tmps.getD p undef = .pointer (some ⟨g, 0, none⟩)) (hg : w.heap[g]? = some (.cells cs t fr))
    (hu : P.underlying ty = some d) (hd : (match d with | .struct _ | .array _ _ => true | _ => false) = true) (hi : (P.info? ty).map (·.size) = some cs.size)
    (hp2 : tmps.getD q undef = .pointer (some ⟨g2, 0, none⟩)) (hg2 : w.heap[g2]? = some (.cells cs2 t2 fr2))
    (hu2 : P.underlying tz = some d2) (hd2 : (match d2 with | .struct _ | .array _ _ => true | _ => false) = true) (hi2 : (P.info? tz).map (·.size) = some cs2.size) :
    (results fn tmps).run P w = .ok (.tuple #[.agg cs, .agg cs2]) w := by
  have hp' : tmps[p]?.getD undef = .pointer (some ⟨g, 0, none⟩) := by simpa using hp
  have hq' : tmps[q]?.getD undef = .pointer (some ⟨g2, 0, none⟩) := by simpa using hp2
  simp [results, h, hp', hq', asAddr, run_loadVar_row w g t ty cs fr d hg hu hd hi, run_loadVar_row w g2 t2 tz cs2 fr2 d2 hg2 hu2 hd2 hi2]
theorem flt_size : (Tryz.prog.info? 41).map (·.size) = some 3 := by kernel_rfl
/-- a fault in block g. -/
abbrev fltO (c : Int) (pl : Bool) (p : Int) : Obj := .cells #[.int .i64 c, .bool pl, .int .i64 p] 41
structure FltAt (w : World) (g : Nat) (c : Int) (pl : Bool) (p : Int) : Prop where
  row : w.heap[g]? = some (fltO c pl p)
theorem FltAt.lt {w : World} {g : Nat} {c p : Int} {pl : Bool} (h : FltAt w g c pl p) : g < w.heap.size := (Array.getElem?_eq_some_iff.1 h.row).1
theorem FltAt.below {w w' : World} {g : Nat} {c p : Int} {pl : Bool} (h : FltAt w g c pl p) (hb : Below w.heap.size w w') : FltAt w' g c pl p := ⟨(hb.block g h.lt).trans h.row⟩
theorem FltAt.cells {w : World} {g : Nat} {c p : Int} {pl : Bool} (h : FltAt w g c pl p) : (w.cell? ⟨g, 0, none⟩ = some (.int .i64 c) ∧ w.cell? ⟨g, 1, none⟩ = some (.bool pl) ∧ w.cell? ⟨g, 2, none⟩ = some (.int .i64 p)) ∧ (w.frozen? ⟨g, 0, none⟩ = false ∧ w.frozen? ⟨g, 1, none⟩ = false ∧ w.frozen? ⟨g, 2, none⟩ = false) :=
  have hz : ∀ j, w.frozen? ⟨g, j, none⟩ = false := fun j => by have := h.row; simp [World.frozen?, this]
  ⟨⟨by rw [cell_of_row _ _ _ _ _ _ h.row]; rfl, by rw [cell_of_row _ _ _ _ _ _ h.row]; rfl, by rw [cell_of_row _ _ _ _ _ _ h.row]; rfl⟩, hz 0, hz 1, hz 2⟩
/-- an operation and a fault, written into the two results. -/
abbrev putTwo25 (W : World) (g h : Nat) (x : Opv) (c : Int) (pl : Bool) (p : Int) : World :=
  ((((((((((W.setCell ⟨g, 0, none⟩ (.int .i64 x.id)).setCell ⟨g, 1, none⟩ (.int .i64 x.kd)).setCell ⟨g, 2, none⟩ (.int .i64 x.a)).setCell ⟨g, 3, none⟩ (.int .i64 x.b)).setCell ⟨g, 4, none⟩ (.int .i64 x.c)).setCell ⟨g, 5, none⟩ (.int .i64 x.d)).setCell ⟨g, 6, none⟩ (.int .i64 x.n)).setCell ⟨g, 7, none⟩ (.int .i64 x.m)).setCell ⟨h, 0, none⟩ (.int .i64 c)).setCell ⟨h, 1, none⟩ (.bool pl)).setCell ⟨h, 2, none⟩ (.int .i64 p)
set_option maxHeartbeats 3200000 in
theorem put_two25 {w W : World} {g h : Nat} (x : Opv) (c p : Int) (pl : Bool) {o : Opv} {c0 p0 : Int} {pl0 : Bool} (hr : OpAt W g o) (hf : FltAt W h c0 pl0 p0) (hne : g ≠ h) (hb : Below w.heap.size w W) (hg : w.heap.size ≤ g) (hh : w.heap.size ≤ h) :
    (putTwo25 W g h x c pl p).heap[g]? = some (opO x) ∧ (putTwo25 W g h x c pl p).heap[h]? = some (fltO c pl p) ∧ Below w.heap.size w (putTwo25 W g h x c pl p) := by
  have h1 := (hr.put x).row
  have h2 := below_putO hb hg (.int .i64 x.id) (.int .i64 x.kd) (.int .i64 x.a) (.int .i64 x.b) (.int .i64 x.c) (.int .i64 x.d) (.int .i64 x.n) (.int .i64 x.m)
  have e := putO_aside (w := W) (Ne.symm hne) (.int .i64 x.id) (.int .i64 x.kd) (.int .i64 x.a) (.int .i64 x.b) (.int .i64 x.c) (.int .i64 x.d) (.int .i64 x.n) (.int .i64 x.m)
  have h3 := e.trans hf.row
  unfold putTwo25
  generalize ((((((((W.setCell ⟨g, 0, none⟩ (.int .i64 x.id)).setCell ⟨g, 1, none⟩ (.int .i64 x.kd)).setCell ⟨g, 2, none⟩ (.int .i64 x.a)).setCell ⟨g, 3, none⟩ (.int .i64 x.b)).setCell ⟨g, 4, none⟩ (.int .i64 x.c)).setCell ⟨g, 5, none⟩ (.int .i64 x.d)).setCell ⟨g, 6, none⟩ (.int .i64 x.n)).setCell ⟨g, 7, none⟩ (.int .i64 x.m)) = V at *
  refine ⟨?_, ?_, ((h2.setCell hh _).setCell hh _).setCell hh _⟩
  · rw [Below.heap_setCell _ _ _ _ (by simpa using hne), Below.heap_setCell _ _ _ _ (by simpa using hne), Below.heap_setCell _ _ _ _ (by simpa using hne)]
    exact h1
  · rw [heap_setCell_row (heap_setCell_row (heap_setCell_row h3 _) _) _]
    rfl
def RqAt25 (xs : List Int) (w : World) (e : Ending) (w' : World) : Prop :=
  e = .returned (.tuple #[opV (rpR xs), faultV (rpF xs).1 (rpF xs).2.1 (rpF xs).2.2]) ∧ Below w.heap.size w w'
theorem rq_end25 {a : Act} {w W : World} {fn : Func} {xs : List Int} (x : Opv) (c p : Int) (pl : Bool) (h : fn.results = #[.cell 2 23, .cell 3 41]) (hd : a.defers = [])
    (hp : a.tmps.getD 2 undef = .pointer (some ⟨w.heap.size, 0, none⟩)) (hq : a.tmps.getD 3 undef = .pointer (some ⟨w.heap.size + 1, 0, none⟩)) (hr : OpAt W w.heap.size zeO) (hf : FltAt W (w.heap.size + 1) 0 false 0) (hb : Below w.heap.size w W)
    (hF : rpF xs = (c, pl, p)) (hx : rpR xs = x) : bodyPost Tryz.prog fn (RqAt25 xs w) .ret a (putTwo25 W w.heap.size (w.heap.size + 1) x c pl p) := by
  obtain ⟨h1, h2, h3⟩ := put_two25 x c p pl hr hf (by omega) hb (Nat.le_refl _) (Nat.le_succ _)
  generalize putTwo25 W w.heap.size (w.heap.size + 1) x c pl p = U at *
  refine bodyPost_ret (results_two25 h _ _ _ _ _ _ _ _ _ _ _ _ hp h1 Tryz.underlying23 rfl op_size hq h2 Tryz.underlying41 rfl flt_size) hd ⟨?_, h3⟩
  rw [hF, hx]
theorem rq_end25d {a : Act} {w W : World} {fn : Func} {xs : List Int} (x : Opv) (c p : Int) (pl : Bool) (h : fn.results = #[.cell 2 23, .cell 3 41]) (hd : a.defers = [])
    (hp : a.tmps.getD 2 undef = .pointer (some ⟨w.heap.size, 0, none⟩)) (hq : a.tmps.getD 3 undef = .pointer (some ⟨w.heap.size + 1, 0, none⟩)) (hr : OpAt W w.heap.size zeO) (hf : FltAt W (w.heap.size + 1) 0 false 0) (hb : Below w.heap.size w W)
    (hF : rpF xs = (c, pl, p)) (hx : rpR xs = x) : bodyPost Tryz.prog fn (RqAt25 xs w) .ret a (putTwo25 W w.heap.size (w.heap.size + 1) x c pl p).drew := by
  obtain ⟨h1, h2, h3⟩ := put_two25 x c p pl hr hf (by omega) hb (Nat.le_refl _) (Nat.le_succ _)
  generalize putTwo25 W w.heap.size (w.heap.size + 1) x c pl p = U at *
  refine bodyPost_ret (results_two25 h _ _ _ _ _ _ _ _ _ _ _ _ hp (show U.drew.heap[w.heap.size]? = _ from h1) Tryz.underlying23 rfl op_size hq (show U.drew.heap[w.heap.size + 1]? = _ from h2) Tryz.underlying41 rfl flt_size) hd ⟨?_, h3.drew⟩
  rw [hF, hx]
/-- eight numbers in a block. -/
structure NbAt25 (w : World) (g : Nat) (f : Nat → Int) : Prop where
  row : w.heap[g]? = some (.cells #[.int .i64 (f 0), .int .i64 (f 1), .int .i64 (f 2), .int .i64 (f 3), .int .i64 (f 4), .int .i64 (f 5), .int .i64 (f 6), .int .i64 (f 7)] 82 (0, 0))
theorem NbAt25.lt {w : World} {g : Nat} {f : Nat → Int} (h : NbAt25 w g f) : g < w.heap.size := (Array.getElem?_eq_some_iff.1 h.row).1
theorem NbAt25.below {w w' : World} {g : Nat} {f : Nat → Int} (h : NbAt25 w g f) (hb : Below w.heap.size w w') : NbAt25 w' g f := ⟨(hb.block g h.lt).trans h.row⟩
theorem NbAt25.trd {w w' : World} {g : Nat} {f : Nat → Int} {S : Nat → Prop} (h : NbAt25 w g f) (ht : Trd S w w') (hS : ¬ S g) : NbAt25 w' g f := ⟨(ht.block g h.lt hS).trans h.row⟩
theorem NbAt25.cell {w : World} {g : Nat} {f : Nat → Int} (h : NbAt25 w g f) (i : Nat) (hi : i < 8) : w.cell? ⟨g, i, none⟩ = some (.int .i64 (f i)) := by
  rw [cell_of_row _ _ _ _ _ _ h.row]
  match i, hi with
  | 0, _ => rfl
  | 1, _ => rfl
  | 2, _ => rfl
  | 3, _ => rfl
  | 4, _ => rfl
  | 5, _ => rfl
  | 6, _ => rfl
  | 7, _ => rfl
theorem NbAt25.frozen {w : World} {g : Nat} {f : Nat → Int} (h : NbAt25 w g f) (j : Nat) : w.frozen? ⟨g, j, none⟩ = false := by
  have := h.row
  simp [World.frozen?, this]
theorem NbAt25.put {w : World} {g i : Nat} {x : Int} {f f' : Nat → Int} (h : NbAt25 w g f) (hi : i < 8) (hf : ∀ p, f' p = if p = i then x else f p) : NbAt25 (w.setCell ⟨g, i, none⟩ (.int .i64 x)) g f' := by
  refine ⟨?_⟩
  rw [heap_setCell_row h.row _, hf 0, hf 1, hf 2, hf 3, hf 4, hf 5, hf 6, hf 7]
  match i, hi with
  | 0, _ => rfl
  | 1, _ => rfl
  | 2, _ => rfl
  | 3, _ => rfl
  | 4, _ => rfl
  | 5, _ => rfl
  | 6, _ => rfl
  | 7, _ => rfl
theorem OpAt.zc8 {w : World} {g : Nat} (h : OpAt w g zeO) : (w.cell? ⟨g, 0, none⟩ = some (.int .i64 0) ∧ w.cell? ⟨g, 1, none⟩ = some (.int .i64 0) ∧ w.cell? ⟨g, 2, none⟩ = some (.int .i64 0) ∧ w.cell? ⟨g, 3, none⟩ = some (.int .i64 0) ∧ w.cell? ⟨g, 4, none⟩ = some (.int .i64 0) ∧ w.cell? ⟨g, 5, none⟩ = some (.int .i64 0) ∧ w.cell? ⟨g, 6, none⟩ = some (.int .i64 0) ∧ w.cell? ⟨g, 7, none⟩ = some (.int .i64 0)) ∧ (w.frozen? ⟨g, 0, none⟩ = false ∧ w.frozen? ⟨g, 1, none⟩ = false ∧ w.frozen? ⟨g, 2, none⟩ = false ∧ w.frozen? ⟨g, 3, none⟩ = false ∧ w.frozen? ⟨g, 4, none⟩ = false ∧ w.frozen? ⟨g, 5, none⟩ = false ∧ w.frozen? ⟨g, 6, none⟩ = false ∧ w.frozen? ⟨g, 7, none⟩ = false) := ⟨h.cells, h.frozen 0, h.frozen 1, h.frozen 2, h.frozen 3, h.frozen 4, h.frozen 5, h.frozen 6, h.frozen 7⟩
def nbF25 (xs : List Int) (k : Nat) : Nat → Int := fun p => if p < k then rdV25 xs p else 0
theorem nbF_next25 (xs : List Int) (k p : Nat) : nbF25 xs (k + 1) p = if p = k then rdV25 xs k else nbF25 xs k p := by
  unfold nbF25
  by_cases h : p = k
  · subst h; rw [if_pos (by omega), if_pos rfl]
  · rw [if_neg h]
    by_cases h2 : p < k
    · rw [if_pos (by omega), if_pos h2]
    · rw [if_neg (by omega), if_neg h2]
theorem nbF_all25 (xs : List Int) (p : Nat) (h : p < 8) : nbF25 xs 8 p = rdV25 xs p := if_pos h
def RqRel25 (xs : List Int) (bv : Value) (w : World) (i : Value) (wr : World) : Prop :=
  ∃ k : Nat, k ≤ 8 ∧ i = .int .i64 (k : Int) ∧ RefR wr (w.heap.size + 1 + 1) bv xs (rdS25 xs k).p (rdS25 xs k).bad ∧ NbAt25 wr (w.heap.size + 1 + 1 + 1) (nbF25 xs k) ∧ OpAt wr w.heap.size zeO ∧ FltAt wr (w.heap.size + 1) 0 false 0 ∧ Below w.heap.size w wr
set_option maxRecDepth 100000 in
set_option maxHeartbeats 3200000 in
theorem refRead_many25 (v : Value) (xs : List Int) (w : World) (hX : Reads .u8 w v xs) (hs : 256 < xs.length) :
    Calls Tryz.prog 16 #[v] w (RqAt25 xs w) := by
  obtain ⟨a, c, rfl⟩ := reads_slice hX
  have hl : (256 : Int) < (xs.length : Int) := by omega
  have hlow := hidden (show Below w.heap.size w ((w.alloc zOb25).alloc (fltO 0 false 0)) from ((Below.refl _ _).alloc (Nat.le_refl _) _).alloc (by simp) _)
  have hr := hidden (show OpAt ((w.alloc zOb25).alloc (fltO 0 false 0)) w.heap.size zeO from ⟨by rw [heap_alloc_old _ _ (by simp)]; exact heap_alloc_new w _⟩)
  have hf := hidden (show FltAt ((w.alloc zOb25).alloc (fltO 0 false 0)) (w.heap.size + 1) 0 false 0 from ⟨by have := heap_alloc_new (w.alloc zOb25) (fltO 0 false 0); rwa [World.size_alloc] at this⟩)
  have hF := hidden (rp_many hs)
  have hz := hidden (rp_bad (xs := xs) (by rw [hF.out]; decide))
  clear hX hs
  go_enter Tryz.func16, Tryz.ntmps16
  go_upto_region 1 with (fail)
  generalize (w.alloc zOb25).alloc (fltO 0 false 0) = w1 at *
  go_wp2_with fail
  refine (fault_bare 105 _).mono ?_
  rintro e w2 ⟨rfl, hb2⟩
  replace hr := hidden (hr.out.below hb2)
  replace hf := hidden (hf.out.below hb2)
  replace hlow := hidden (hlow.out.trans (hb2.mono hlow.out.size))
  clear hb2
  obtain ⟨⟨z0, z1, z2, z3, z4, z5, z6, z7⟩, g0, g1, g2, g3, g4, g5, g6, g7⟩ := hr.out.zc8
  obtain ⟨⟨y0, y1, y2⟩, k0, k1, k2⟩ := hf.out.cells
  go_wp2
  exact rq_end25 zeO 105 0 false rfl rfl rfl rfl hr.out hf.out hlow.out hF.out hz.out
/-- three numbers of a fault that a reader has met. -/
theorem RefR.bad3 {w : World} {g p c : Nat} {bv : Value} {xs : List Int} (h : RefR w g bv xs p (some c)) : w.cell? ⟨g, 2, none⟩ = some (.int .i64 (101 + (c : Int))) ∧ w.cell? ⟨g, 3, none⟩ = some (.bool true) ∧ w.cell? ⟨g, 4, none⟩ = some (.int .i64 (p : Int)) := ⟨h.c2, h.c3, h.c4⟩
theorem OpAt.trd25 {w w' : World} {g : Nat} {o : Opv} {S : Nat → Prop} (h : OpAt w g o) (ht : Trd S w w') (hS : ¬ S g) : OpAt w' g o := ⟨(ht.block g h.lt hS).trans h.row⟩
theorem FltAt.trd25 {w w' : World} {g : Nat} {c p : Int} {pl : Bool} {S : Nat → Prop} (h : FltAt w g c pl p) (ht : Trd S w w') (hS : ¬ S g) : FltAt w' g c pl p := ⟨(ht.block g h.lt hS).trans h.row⟩
set_option maxRecDepth 100000 in
set_option maxHeartbeats 6400000 in
theorem refRead_rest25 (v : Value) (xs : List Int) (w : World) (hX : Reads .u8 w v xs) (hx : ∀ x ∈ xs, 0 ≤ x ∧ x ≤ 255) (hs : ¬ 256 < xs.length) :
    Calls Tryz.prog 16 #[v] w (RqAt25 xs w) := by
  obtain ⟨a, c, rfl⟩ := reads_slice hX
  have hl : ¬ (256 : Int) < (xs.length : Int) := by omega
  have hlow := hidden (show Below w.heap.size w ((w.alloc zOb25).alloc (fltO 0 false 0)) from ((Below.refl _ _).alloc (Nat.le_refl _) _).alloc (by simp) _)
  have hr := hidden (show OpAt ((w.alloc zOb25).alloc (fltO 0 false 0)) w.heap.size zeO from ⟨by rw [heap_alloc_old _ _ (by simp)]; exact heap_alloc_new w _⟩)
  have hf := hidden (show FltAt ((w.alloc zOb25).alloc (fltO 0 false 0)) (w.heap.size + 1) 0 false 0 from ⟨by have := heap_alloc_new (w.alloc zOb25) (fltO 0 false 0); rwa [World.size_alloc] at this⟩)
  have hsz : ((w.alloc zOb25).alloc (fltO 0 false 0)).heap.size = w.heap.size + 1 + 1 := by simp
  have hsz := hidden hsz
  have hX2 := hX.below hlow.out (Nat.le_refl _)
  replace hX2 := hidden hX2
  have hs' := hidden hs
  have hlen := hidden (show xs.length ≤ 1000000 by omega)
  replace hx := hidden hx
  clear hX hs
  go_enter Tryz.func16, Tryz.ntmps16
  go_upto_region 1 with (fail)
  generalize (w.alloc zOb25).alloc (fltO 0 false 0) = w1 at *
  go_upto_region 5 with (fail)
  have hR := hidden (show RefR ((w1.alloc (.cells #[.slice a xs.length c, .int .i64 0, .int .i64 0, .bool false, .int .i64 0] 81)).alloc (.cells #[.int .i64 0, .int .i64 0, .int .i64 0, .int .i64 0, .int .i64 0, .int .i64 0, .int .i64 0, .int .i64 0] 82)) (w.heap.size + 1 + 1) (.slice a xs.length c) xs 0 none from by rw [← hsz.out]; exact (refR_new25 w1 _ _ hX2.out).below ((Below.refl _ _).alloc (Nat.le_refl _) _))
  have hn := hidden (show NbAt25 ((w1.alloc (.cells #[.slice a xs.length c, .int .i64 0, .int .i64 0, .bool false, .int .i64 0] 81)).alloc (.cells #[.int .i64 0, .int .i64 0, .int .i64 0, .int .i64 0, .int .i64 0, .int .i64 0, .int .i64 0, .int .i64 0] 82)) (w.heap.size + 1 + 1 + 1) (nbF25 xs 0) from ⟨by rw [← hsz.out]; have := heap_alloc_new (w1.alloc (.cells #[.slice a xs.length c, .int .i64 0, .int .i64 0, .bool false, .int .i64 0] 81)) (.cells #[.int .i64 0, .int .i64 0, .int .i64 0, .int .i64 0, .int .i64 0, .int .i64 0, .int .i64 0, .int .i64 0] 82); rwa [World.size_alloc] at this⟩)
  have h11 := hidden (((Below.refl w1.heap.size w1).alloc (Nat.le_refl _) (.cells #[.slice a xs.length c, .int .i64 0, .int .i64 0, .bool false, .int .i64 0] 81)).alloc (by simp) (.cells #[.int .i64 0, .int .i64 0, .int .i64 0, .int .i64 0, .int .i64 0, .int .i64 0, .int .i64 0, .int .i64 0] 82))
  replace hr := hidden (hr.out.below h11.out)
  replace hf := hidden (hf.out.below h11.out)
  replace hlow := hidden (hlow.out.trans (h11.out.mono hlow.out.size))
  clear h11 hX2
  generalize (w1.alloc (.cells #[.slice a xs.length c, .int .i64 0, .int .i64 0, .bool false, .int .i64 0] 81)).alloc (.cells #[.int .i64 0, .int .i64 0, .int .i64 0, .int .i64 0, .int .i64 0, .int .i64 0, .int .i64 0, .int .i64 0] 82) = w2 at *
  clear hsz
  have hst := hidden (show RqRel25 xs (.slice a xs.length c) w (.int .i64 0) w2 from ⟨0, by decide, rfl, hR.out, hn.out, hr.out, hf.out, hlow.out⟩)
  clear hR hn hr hf hlow
  go_wp2_with fail
  go_loopw [6] (fun i wr => RqRel25 xs (.slice a xs.length c) w i wr) (fun i _ => 8 - (intOf i).toNat)
  case atStart => exact hst.out
  case round =>
    clear hst
    obtain ⟨k, hk, rfl, hR, hn, hr, hf, hlow⟩ := hrel
    replace hn := hidden hn
    replace hr := hidden hr
    replace hf := hidden hf
    replace hlow := hidden hlow
    by_cases hlt : k < 8
    · have hkI : (k : Int) < 8 := by omega
      have hN := hidden (refNumG_next wr _ _ xs (rdS25 xs k) hR hlen.out hx.out)
      have hnx := hidden (nbF_next25 xs k)
      have hS := hidden (rdS_next25 xs k)
      have hV := hidden (show (rdN25 xs (rdS25 xs k)).1 = rdV25 xs k from rfl)
      unfold RNumG at hN
      rw [hV.out, ← hS.out] at hN
      generalize rdV25 xs k = y at *
      clear hR
      go_wp2_with fail
      refine hN.out.mono ?_
      rintro e w3 ⟨rfl, hR3, ht3⟩
      have hn3 := hn.out.trd ht3 (by omega)
      have hr3 := hr.out.trd25 ht3 (by omega)
      have hf3 := hf.out.trd25 ht3 (by omega)
      have hlow3 := hlow.out.trans (ht3.below (B := w.heap.size) (fun i hi => by omega) hlow.out.size)
      have cn := hn3.cell k hlt
      have fn := hn3.frozen k
      have hn4 := hidden (hn3.put (x := y) hlt hnx.out)
      have ht4 := Trd.setCell (S := (· = w.heap.size + 1 + 1 + 1)) w3 ⟨w.heap.size + 1 + 1 + 1, k, none⟩ (.int .i64 y) rfl
      have hR4 := hidden (hR3.trd25 ht4 (by omega))
      have hr4 := hidden (hr3.trd25 ht4 (by omega))
      have hf4 := hidden (hf3.trd25 ht4 (by omega))
      have hlow4 := hidden (hlow3.setCell (p := ⟨w.heap.size + 1 + 1 + 1, k, none⟩) (by show w.heap.size ≤ w.heap.size + 1 + 1 + 1; omega) (.int .i64 y))
      clear hN hn hr hf hlow hn3 hr3 hf3 hlow3 ht3 ht4 hR3 hnx hS hV
      go_wp2
      go_roundw
      case rel => exact ⟨k + 1, by omega, by go_num, hR4.out, hn4.out, hr4.out, hf4.out, hlow4.out⟩
      case measure => simp [intOf]; omega
    · obtain rfl : k = 8 := by omega
      have hp8 := hR.le
      cases hbad : (rdS25 xs 8).bad with
      | some cc =>
        rw [hbad] at hR
        have hF := hidden (rp_err hs'.out hbad)
        have hz := hidden (rp_bad (xs := xs) (by rw [hF.out]; show 101 + (cc : Int) ≠ 0; omega))
        have hO := hidden (refROk_any wr _ _ xs _ _ hR)
        replace hR := hidden hR
        clear hbad hp8
        generalize (rdS25 xs 8).p = pp at *
        go_wp2_with fail
        refine hO.out.mono ?_
        rintro e w' ⟨rfl, rfl⟩
        go_wp2_with fail
        refine hO.out.mono ?_
        rintro e w' ⟨rfl, rfl⟩
        obtain ⟨b2, b3, b4⟩ := hR.out.bad3
        obtain ⟨⟨z0, z1, z2, z3, z4, z5, z6, z7⟩, g0, g1, g2, g3, g4, g5, g6, g7⟩ := hr.out.zc8
        obtain ⟨⟨y0, y1, y2⟩, k0, k1, k2⟩ := hf.out.cells
        go_wp2_with fail
        go_region
        go_wp2
        exact rq_end25d zeO _ _ _ rfl rfl rfl rfl hr.out hf.out hlow.out hF.out hz.out
      | none =>
        rw [hbad] at hR
        by_cases hleft : (rdS25 xs 8).p < xs.length
        · have hF := hidden (rp_left hs'.out hbad hleft)
          have hz := hidden (rp_bad (xs := xs) (by rw [hF.out]; show (102 : Int) ≠ 0; decide))
          have hO := hidden (refROk_any wr _ _ xs _ _ hR)
          have hL := hidden (refRLeft_any wr _ _ xs _ _ hR (by have := hlen.out; omega))
          have hFl := hidden (fun W hR => show Calls Tryz.prog 44 #[.pointer (some ⟨w.heap.size + 1 + 1, 0, none⟩), .int .i64 102, .int .i64 ((rdS25 xs 8).p : Int)] W (RFailAt (w.heap.size + 1 + 1) (.slice a xs.length c) xs (rdS25 xs 8).p 1 W) from refFail_any W (w.heap.size + 1 + 1) (.slice a xs.length c) xs (rdS25 xs 8).p 1 hR)
          replace hR := hidden hR
          have hgt : (0 : Int) < (xs.length : Int) - ((rdS25 xs 8).p : Int) := by omega
          clear hbad hp8 hleft
          generalize (rdS25 xs 8).p = pp at *
          go_wp2_with fail
          refine hO.out.mono ?_
          rintro e w' ⟨rfl, rfl⟩
          go_wp2_with fail
          refine hL.out.mono ?_
          rintro e w' ⟨rfl, m, rfl⟩
          have hbm := below_drewN (m := m) (Below.refl wr.heap.size wr)
          replace hR := hidden (hR.out.below hbm)
          replace hr := hidden (hr.out.below hbm)
          replace hf := hidden (hf.out.below hbm)
          replace hlow := hidden (hlow.out.trans (hbm.mono hlow.out.size))
          clear hbm hO hL
          generalize wr.drewN m = w5 at *
          have c1 := hR.out.c1
          have hFl5 := hidden (hFl.out w5 hR.out)
          unfold RFailAt at hFl5
          clear hR hFl
          go_wp2_with fail
          refine hFl5.out.mono ?_
          rintro e w6 ⟨rfl, hR6, ht6⟩
          replace hr := hidden (hr.out.trd25 ht6 (by omega))
          replace hf := hidden (hf.out.trd25 ht6 (by omega))
          replace hlow := hidden (hlow.out.trans (ht6.below (B := w.heap.size) (fun i hi => by omega) hlow.out.size))
          have hO6 := hidden (refROk_any w6 _ _ xs _ _ hR6)
          replace hR6 := hidden hR6
          clear hFl5 ht6 c1 hgt
          go_wp2_with fail
          refine hO6.out.mono ?_
          rintro e w' ⟨rfl, rfl⟩
          obtain ⟨b2, b3, b4⟩ := hR6.out.bad3
          obtain ⟨⟨z0, z1, z2, z3, z4, z5, z6, z7⟩, g0, g1, g2, g3, g4, g5, g6, g7⟩ := hr.out.zc8
          obtain ⟨⟨y0, y1, y2⟩, k0, k1, k2⟩ := hf.out.cells
          go_wp2_with fail
          go_region
          go_wp2
          exact rq_end25d zeO _ _ _ rfl rfl rfl rfl hr.out hf.out hlow.out hF.out hz.out
        · have hF := hidden (rp_end hs'.out hbad hleft)
          have hO := hidden (fun W hR => refROk_any W (w.heap.size + 1 + 1) (.slice a xs.length c) xs (rdS25 xs 8).p none hR)
          have hL := hidden (refRLeft_any wr _ _ xs _ _ hR (by have := hlen.out; omega))
          replace hR := hidden hR
          have hgt : ¬ (0 : Int) < (xs.length : Int) - ((rdS25 xs 8).p : Int) := by omega
          have hOe := hidden (show (⟨nbF25 xs 8 0, nbF25 xs 8 1, nbF25 xs 8 2, nbF25 xs 8 3, nbF25 xs 8 4, nbF25 xs 8 5, nbF25 xs 8 6, nbF25 xs 8 7⟩ : Opv) = rpO xs from by
            rw [nbF_all25 xs 0 (by decide), nbF_all25 xs 1 (by decide), nbF_all25 xs 2 (by decide), nbF_all25 xs 3 (by decide), nbF_all25 xs 4 (by decide), nbF_all25 xs 5 (by decide), nbF_all25 xs 6 (by decide), nbF_all25 xs 7 (by decide)]
            rfl)
          have hV := hidden (fun W => refValid25 ⟨nbF25 xs 8 0, nbF25 xs 8 1, nbF25 xs 8 2, nbF25 xs 8 3, nbF25 xs 8 4, nbF25 xs 8 5, nbF25 xs 8 6, nbF25 xs 8 7⟩ W)
          clear hbad hp8 hleft
          generalize (rdS25 xs 8).p = pp at *
          generalize nbF25 xs 8 = f at *
          go_wp2_with fail
          refine (hO.out _ hR.out).mono ?_
          rintro e w' ⟨rfl, rfl⟩
          go_wp2_with fail
          refine hL.out.mono ?_
          rintro e w' ⟨rfl, m, rfl⟩
          have hbm := below_drewN (m := m) (Below.refl wr.heap.size wr)
          replace hR := hidden (hR.out.below hbm)
          replace hn := hidden (hn.out.below hbm)
          replace hr := hidden (hr.out.below hbm)
          replace hf := hidden (hf.out.below hbm)
          replace hlow := hidden (hlow.out.trans (hbm.mono hlow.out.size))
          clear hbm hL
          generalize wr.drewN m = w5 at *
          go_wp2_with fail
          refine (hO.out _ hR.out).mono ?_
          rintro e w' ⟨rfl, rfl⟩
          have n0 := hn.out.cell 0 (by decide)
          have n1 := hn.out.cell 1 (by decide)
          have n2 := hn.out.cell 2 (by decide)
          have n3 := hn.out.cell 3 (by decide)
          have n4 := hn.out.cell 4 (by decide)
          have n5 := hn.out.cell 5 (by decide)
          have n6 := hn.out.cell 6 (by decide)
          have n7 := hn.out.cell 7 (by decide)
          generalize hOO : (⟨f 0, f 1, f 2, f 3, f 4, f 5, f 6, f 7⟩ : Opv) = O at *
          have hb6 := hidden ((Below.refl w5.heap.size w5).alloc (Nat.le_refl _) (opO O))
          have ho := hidden (show OpAt (w5.alloc (opO O)) w5.heap.size O from ⟨heap_alloc_new w5 _⟩)
          replace hr := hidden (hr.out.below hb6.out)
          replace hf := hidden (hf.out.below hb6.out)
          replace hlow := hidden (hlow.out.trans (hb6.out.mono hlow.out.size))
          have hOb : (opO O : Obj) = opO ⟨f 0, f 1, f 2, f 3, f 4, f 5, f 6, f 7⟩ := by rw [hOO]
          have hOb := hidden hOb
          replace hOO := hidden hOO
          clear hR hO hn hb6
          go_upto_region 14 with (fail)
          have hW : w5.alloc (opO O) = w5.alloc (opO ⟨f 0, f 1, f 2, f 3, f 4, f 5, f 6, f 7⟩) := by rw [hOb.out]
          rw [hW] at ho hr hf hlow
          clear hW hOb n0 n1 n2 n3 n4 n5 n6 n7 hgt
          generalize w5.alloc (opO ⟨f 0, f 1, f 2, f 3, f 4, f 5, f 6, f 7⟩) = w6 at *
          generalize w5.heap.size = gO at *
          obtain ⟨q0, q1, q2, q3, q4, q5, q6, q7⟩ := ho.out.cells
          go_wp2_with fail
          refine (hV.out _).mono ?_
          rintro e w7 ⟨rfl, hb7⟩
          replace ho := hidden (ho.out.below hb7)
          replace hr := hidden (hr.out.below hb7)
          replace hf := hidden (hf.out.below hb7)
          replace hlow := hidden (hlow.out.trans (hb7.mono hlow.out.size))
          clear q0 q1 q2 q3 q4 q5 q6 q7 hV hb7
          by_cases hg : opE O = 0
          · have hg2 : (opE O != 0) = false := by rw [bne_eq_false_iff_eq]; exact hg
            have hF2 := hidden (show rpF xs = (0, false, 0) by rw [hF.out.1, ← hOe.out, hg])
            have hx2 := hidden (show rpR xs = O by rw [hF.out.2, ← hOe.out]; unfold opR; rw [if_pos hg])
            clear hg hF hOe
            generalize opE O = cq at *
            obtain ⟨q0, q1, q2, q3, q4, q5, q6, q7⟩ := ho.out.cells
            go_upto_region 17 with (fail)
            go_region_with (go_at_call 45; refine (fault_none _).mono ?_; rintro e' w8 ⟨rfl, hb8⟩; have hb9 := hidden ((Below.refl w7.heap.size w7).drew.trans hb8); have ho9 := hidden (ho.out.below hb9.out); have hr9 := hidden (hr.out.below hb9.out); have hf9 := hidden (hf.out.below hb9.out); have hlow9 := hidden (hlow.out.trans (hb9.out.mono hlow.out.size)); obtain ⟨p0, p1, p2, p3, p4, p5, p6, p7⟩ := ho9.out.cells; obtain ⟨⟨z0, z1, z2, z3, z4, z5, z6, z7⟩, g0, g1, g2, g3, g4, g5, g6, g7⟩ := hr9.out.zc8; obtain ⟨⟨y0, y1, y2⟩, k0, k1, k2⟩ := hf9.out.cells)
            all_goals
              go_wp2
              exact rq_end25 O 0 0 false rfl rfl rfl rfl hr9.out hf9.out hlow9.out hF2.out hx2.out
          · have hg2 : (opE O != 0) = true := by rw [bne_iff_ne]; exact hg
            have hF2 := hidden (show rpF xs = (opE O, false, 0) by rw [hF.out.1, ← hOe.out])
            have hx2 := hidden (show rpR xs = zeO by rw [hF.out.2, ← hOe.out]; unfold opR; rw [if_neg hg])
            clear hg hF hOe
            generalize opE O = cq at *
            go_wp2_with fail
            refine (fault_bare cq _).mono ?_
            rintro e w8 ⟨rfl, hb8⟩
            replace hr := hidden (hr.out.below hb8)
            replace hf := hidden (hf.out.below hb8)
            replace hlow := hidden (hlow.out.trans (hb8.mono hlow.out.size))
            obtain ⟨⟨z0, z1, z2, z3, z4, z5, z6, z7⟩, g0, g1, g2, g3, g4, g5, g6, g7⟩ := hr.out.zc8
            obtain ⟨⟨y0, y1, y2⟩, k0, k1, k2⟩ := hf.out.cells
            clear hb8
            go_wp2
            exact rq_end25 zeO cq 0 false rfl rfl rfl rfl hr.out hf.out hlow.out hF2.out hx2.out
theorem refRead_any25 (v : Value) (xs : List Int) (w : World) (hX : Reads .u8 w v xs) (hx : ∀ x ∈ xs, 0 ≤ x ∧ x ≤ 255) :
    Calls Tryz.prog 16 #[v] w (RqAt25 xs w) := by
  by_cases hs : 256 < xs.length
  · exact refRead_many25 v xs w hX hs
  · exact refRead_rest25 v xs w hX hx hs
end Go.Proofs.YtongpgnnhpbcpaaGreatDoor
