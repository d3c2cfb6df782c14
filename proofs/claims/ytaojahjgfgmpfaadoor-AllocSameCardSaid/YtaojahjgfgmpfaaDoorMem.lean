/-
  Memory that a call makes and writes: what all that was there but some blocks; a block of bytes; a result that lies in a cell.
-/
import Derived.Test.YtaojahjgfgmpfaaDoorShare
import Derived.Test.YtaojahjgfgmpfaaDoorRow
import Derived.Deep.MidRow
import Derived.Laws.Rows
namespace Go.Proofs.YtaojahjgfgmpfaaDoor
open Go Go.RowKit
set_option linter.unusedVariables false

/-- a sector's cells. -/
def secV (xs : List Int) : List Value := xs.map (Value.int .u8)
theorem secV_len (xs : List Int) : (secV xs).length = xs.length := by simp [secV]
theorem secV_one (xs : List Int) : ∀ v ∈ secV xs, v.oneCell' = true := fun v hv => by
  obtain ⟨x, _, rfl⟩ := List.mem_map.1 hv
  rfl

/-- But for the blocks of S, all that was there is as it was. -/
structure Trd (S : Nat → Prop) (w w' : World) : Prop where
  os : w'.os = w.os
  tape : w'.tape = w.tape
  output : w'.output = w.output
  size : w.heap.size ≤ w'.heap.size
  block : ∀ k, k < w.heap.size → ¬ S k → w'.heap[k]? = w.heap[k]?
section
variable {S : Nat → Prop} {w w1 w2 : World}
theorem Trd.refl (S : Nat → Prop) (w : World) : Trd S w w := ⟨rfl, rfl, rfl, Nat.le_refl _, fun _ _ _ => rfl⟩
theorem Trd.trans (h : Trd S w w1) (k : Trd S w1 w2) : Trd S w w2 :=
  ⟨k.os.trans h.os, k.tape.trans h.tape, k.output.trans h.output, Nat.le_trans h.size k.size, fun i hi hn => (k.block i (Nat.lt_of_lt_of_le hi h.size) hn).trans (h.block i hi hn)⟩
theorem Trd.of_below {B : Nat} (h : Below B w w1) (hB : w.heap.size ≤ B) : Trd S w w1 := ⟨h.os, h.tape, h.output, h.size, fun i hi _ => h.block i (by omega)⟩
theorem Trd.below {B : Nat} (h : Trd S w w1) (hS : ∀ k, S k → B ≤ k) (hB : B ≤ w.heap.size) : Below B w w1 := ⟨h.os, h.tape, h.output, h.size, fun i hi => h.block i (by omega) fun hs => by have := hS i hs; omega⟩
theorem Trd.grown {row : Option Nat} (h : w.grownBy w1 row) (hr : ∀ k, row = some k → S k) : Trd S w w1 := ⟨h.os, h.tape, h.output, h.size, fun i hi hn => h.block i hi fun e => hn (hr i e.symm)⟩
theorem Trd.drew (w : World) : Trd S w w.drew := ⟨rfl, rfl, rfl, Nat.le_refl _, fun _ _ _ => rfl⟩
theorem Trd.alloc (w : World) (o : Obj) : Trd S w (w.alloc o) := Trd.of_below ((Below.refl _ w).alloc (Nat.le_refl _) o) (Nat.le_refl _)
theorem Trd.setCell (w : World) (a : Addr) (v : Value) (h : S a.block) : Trd S w (w.setCell a v) :=
  ⟨rfl, rfl, rfl, by simp [World.setCell], fun i hi hn => Below.heap_setCell _ _ _ _ fun e => hn (by rw [e]; exact h)⟩
theorem Trd.setCells {b : Nat} (h : S b) : ∀ (vs : List Value) (o : Nat) (w : World), Trd S w (w.setCells b o vs)
  | [], _, w => Trd.refl S w
  | v :: r, o, w => (Trd.setCell w ⟨b, o, none⟩ v h).trans (Trd.setCells h r (o + 1) _)
theorem Trd.mono {S' : Nat → Prop} (h : Trd S w w1) (hs : ∀ k, S k → S' k) : Trd S' w w1 := ⟨h.os, h.tape, h.output, h.size, fun i hi hn => h.block i hi fun hk => hn (hs i hk)⟩
end
theorem Reads.trd {k : IntKind} {S : Nat → Prop} {w w' : World} {v : Value} {xs : List Int} (h : Reads k w v xs) (ht : Trd S w w') (hv : ∀ b, v.ownBlock = some b → ¬ S b) : Reads k w' v xs := by
  obtain ⟨a, len, cap, rfl, h1, h2, h3, h4, h5⟩ := h
  refine ⟨a, len, cap, rfl, h1, h2, h3, h4, fun ad had i hi => ?_⟩
  obtain ⟨h6, h7⟩ := h5 ad had i hi
  refine ⟨h6, ?_⟩
  subst had
  rw [World.cell?_of_block (w := w) (ht.block _ (World.block_lt_of_cell? w _ h7) (hv _ rfl))]
  exact h7
/-- a cell of the struct is written. -/
theorem heap_setCell_row {w : World} {b o : Nat} {cs : Array Value} {t : TypeId} {fr : Nat × Nat} (h : w.heap[b]? = some (.cells cs t fr)) (v : Value) : (w.setCell ⟨b, o, none⟩ v).heap[b]? = some (.cells (cs.setIfInBounds o v) t fr) := by
  simp [World.setCell, Array.getElem?_modify, h]
theorem reads_block {k : IntKind} {w : World} {g : Nat} {xs : List Int} {e : TypeId} {n : Nat} (h : w.heap[g]? = some (.cells (xs.map (Value.int k)).toArray e (0, 0))) (hn : xs.length = n) (hm : n ≤ 1000000) : Reads k w (.slice (some ⟨g, 0, none⟩) n n) xs := by
  refine ⟨_, n, n, rfl, hn, Nat.le_refl _, by unfold maxLen; omega, (fun h => by cases h), fun ad had i hi => ?_⟩
  obtain rfl := Option.some.inj had
  refine ⟨rfl, ?_⟩
  simp only [Nat.zero_add]
  rw [cell_of_row _ _ _ _ _ _ h, List.getElem?_toArray, List.getElem?_map, List.getD_eq_getElem?_getD, List.getElem?_eq_getElem (by omega)]
  rfl
theorem whole_start {w w1 : World} {n : Nat} (hg : w.grownBy w1 none) (ho : w1.ownsRow w.heap.size 5 1 (.slice (some ⟨w.heap.size, 0, none⟩) n n) n (madeCells #[.int .u8 0] n).toList) :
    w1.heap[w.heap.size]? = some (.cells ((List.replicate n (0 : Int)).map (Value.int .u8)).toArray 5 (0, 0)) ∧ Below w.heap.size w w1 := by
  refine ⟨?_, (Below.refl _ w).grown hg (Nat.le_refl _) (fun k hk => by cases hk)⟩
  obtain ⟨h1, h2⟩ := ho
  rcases h2 with ⟨h2, _⟩ | ⟨g, cap, cur, hv, hb, hh, hn, hc, hs, ht⟩
  · cases h2
  · simp only [Value.slice.injEq, Option.some.injEq, Addr.mk.injEq, and_true, true_and] at hv
    obtain ⟨rfl, rfl⟩ := hv
    rw [hh]
    congr 2
    apply Array.ext'
    rw [List.take_of_length_le (by simp; omega), toList_madeCells_one] at ht
    rw [ht]
    simp
/-- block g holds these bytes. -/
def ByteAt (w : World) (g : Nat) (bs : List Int) : Prop := w.heap[g]? = some (.cells (secV bs).toArray 5 (0, 0))
theorem ByteAt.cell {w : World} {g : Nat} {bs : List Int} (h : ByteAt w g bs) {i : Nat} (hi : i < bs.length) : w.cell? ⟨g, i, none⟩ = some (.int .u8 (bs.getD i 0)) := by
  rw [cell_of_row _ _ _ _ _ _ h, List.getElem?_toArray, secV, List.getElem?_map, List.getD_eq_getElem?_getD, List.getElem?_eq_getElem hi]
  rfl
theorem ByteAt.frozen {w : World} {g : Nat} {bs : List Int} (h : ByteAt w g bs) (i : Nat) : w.frozen? ⟨g, i, none⟩ = false := by
  have := h
  unfold ByteAt at this
  simp [World.frozen?, this]
theorem ByteAt.set {w : World} {g : Nat} {bs : List Int} (h : ByteAt w g bs) (i : Nat) (x : Int) : ByteAt (w.setCell ⟨g, i, none⟩ (.int .u8 x)) g (bs.set i x) := by
  unfold ByteAt
  rw [heap_setCell_row h]
  simp [secV]
theorem ByteAt.block {w w' : World} {g : Nat} {bs : List Int} (h : ByteAt w g bs) (hb : w'.heap[g]? = w.heap[g]?) : ByteAt w' g bs := hb.trans h
theorem ByteAt.lt {w : World} {g : Nat} {bs : List Int} (h : ByteAt w g bs) : g < w.heap.size := (Array.getElem?_eq_some_iff.1 h).1
theorem reads_part {k : IntKind} {w : World} {b o n c m at_ c' : Nat} {xs : List Int} (h : Reads k w (.slice (some ⟨b, o, none⟩) n c) xs) (hm : at_ + m ≤ n) (hc : m ≤ c') (hc2 : c' ≤ c) : Reads k w (.slice (some ⟨b, o + at_, none⟩) m c') ((xs.drop at_).take m) := by
  obtain ⟨a', len, cap, e, h1, h2, h3, h4, h5⟩ := h
  simp only [Value.slice.injEq] at e
  obtain ⟨rfl, rfl, rfl⟩ := e
  refine ⟨_, m, _, rfl, by simp; omega, hc, Nat.le_trans hc2 h3, (fun h => by cases h), fun ad had i hi => ?_⟩
  obtain rfl := Option.some.inj had
  obtain ⟨h6, h7⟩ := h5 _ rfl (at_ + i) (by omega)
  refine ⟨rfl, ?_⟩
  simp only [Nat.add_assoc] at h7 ⊢
  rw [h7]
  simp [List.getD_eq_getElem?_getD, List.getElem?_drop, hi]
theorem bits_or64 (a b : Nat) (ha : a < 4611686018427387904) (hb : b < 4611686018427387904) (h : a ||| b < 4611686018427387904) : bits .or .i64 (a : Int) (b : Int) = ((a ||| b : Nat) : Int) := by
  have h1 : (BitVec.ofInt 64 (a : Int) ||| BitVec.ofInt 64 (b : Int)).toNat = a ||| b := by
    rw [BitVec.toNat_or, BitVec.ofInt_natCast, BitVec.ofInt_natCast, BitVec.toNat_ofNat, BitVec.toNat_ofNat, Nat.mod_eq_of_lt (by omega), Nat.mod_eq_of_lt (by omega)]
  show IntKind.i64.wrap (((BitVec.ofInt 64 (a : Int) ||| BitVec.ofInt 64 (b : Int)).toNat : Nat) : Int) = _
  rw [h1, IntKind.wrap_i64]
  omega
theorem ByteAt.reads {w : World} {g : Nat} {bs : List Int} {n : Nat} (h : ByteAt w g bs) (hn : bs.length = n) (hm : n ≤ 1000000) : Reads .u8 w (.slice (some ⟨g, 0, none⟩) n n) bs := reads_block h hn hm
theorem results_cell2 {P : Program} {fn : Func} {p u : Tmp} {ty : TypeId} (h : fn.results = #[.cell p ty, .tmp u]) (tmps : Array Value) (w : World) (g : Nat) (t : TypeId) (cs : Array Value) (fr : Nat × Nat) (d : TypeDesc)
    (hp : tmps.getD p undef = .pointer (some ⟨g, 0, none⟩)) (hg : w.heap[g]? = some (.cells cs t fr))
    (hu : P.underlying ty = some d) (hd : (match d with | .struct _ | .array _ _ => true | _ => false) = true) (hi : (P.info? ty).map (·.size) = some cs.size) :
    (results fn tmps).run P w = .ok (.tuple #[.agg cs, tmps.getD u undef]) w := by
  have hp' : tmps[p]?.getD undef = .pointer (some ⟨g, 0, none⟩) := by simpa using hp
  simp [results, h, hp', asAddr, run_loadVar_row w g t ty cs fr d hg hu hd hi]
theorem results_cell3 {P : Program} {fn : Func} {p u v : Tmp} {ty : TypeId} (h : fn.results = #[.cell p ty, .tmp u, .tmp v]) (tmps : Array Value) (w : World) (g : Nat) (t : TypeId) (cs : Array Value) (fr : Nat × Nat) (d : TypeDesc)
    (hp : tmps.getD p undef = .pointer (some ⟨g, 0, none⟩)) (hg : w.heap[g]? = some (.cells cs t fr))
    (hu : P.underlying ty = some d) (hd : (match d with | .struct _ | .array _ _ => true | _ => false) = true) (hi : (P.info? ty).map (·.size) = some cs.size) :
    (results fn tmps).run P w = .ok (.tuple #[.agg cs, tmps.getD u undef, tmps.getD v undef]) w := by
  have hp' : tmps[p]?.getD undef = .pointer (some ⟨g, 0, none⟩) := by simpa using hp
  simp [results, h, hp', asAddr, run_loadVar_row w g t ty cs fr d hg hu hd hi]
theorem reads_cap {k : IntKind} {w : World} {a : Option Addr} {n c : Nat} {xs : List Int} (h : Reads k w (.slice a n c) xs) : n ≤ c ∧ c ≤ maxLen := by
  obtain ⟨a', len, cap, e, h1, h2, h3, _⟩ := h
  simp only [Value.slice.injEq] at e
  obtain ⟨rfl, rfl, rfl⟩ := e
  exact ⟨h2, h3⟩
/-- several cells of a block are written. -/
theorem heap_setCells_row {b : Nat} {t : TypeId} {fr : Nat × Nat} : ∀ (vs : List Value) (o : Nat) (w : World) (F : List Value), o + vs.length ≤ F.length → w.heap[b]? = some (.cells F.toArray t fr) →
    (w.setCells b o vs).heap[b]? = some (.cells (F.take o ++ vs ++ F.drop (o + vs.length)).toArray t fr)
  | [], o, w, F, _, h => by
    simp only [World.setCells, List.append_nil, List.length_nil, Nat.add_zero, List.take_append_drop]
    exact h
  | v :: r, o, w, F, hl, h => by
    have hl' : o + (r.length + 1) ≤ F.length := by simpa using hl
    have h1 := heap_setCell_row (o := o) h v
    rw [show F.toArray.setIfInBounds o v = (F.set o v).toArray by simp] at h1
    have h2 := heap_setCells_row r (o + 1) _ _ (by rw [List.length_set]; omega) h1
    show ((w.setCell ⟨b, o, none⟩ v).setCells b (o + 1) r).heap[b]? = _
    rw [h2, List.set_eq_take_append_cons_drop, if_pos (by omega)]
    have hA : (F.take o).length = o := by rw [List.length_take]; omega
    have e1 : (F.take o ++ v :: F.drop (o + 1)).take (o + 1) = F.take o ++ [v] := by
      rw [List.take_append, hA, List.take_of_length_le (by omega), show o + 1 - o = 1 by omega]
      rfl
    have e2 : (F.take o ++ v :: F.drop (o + 1)).drop (o + 1 + r.length) = F.drop (o + (r.length + 1)) := by
      rw [List.drop_append, hA, List.drop_eq_nil_of_le (by omega), show o + 1 + r.length - o = r.length + 1 by omega, List.drop_succ_cons, List.drop_drop, List.nil_append, show o + 1 + r.length = o + (r.length + 1) by omega]
    rw [e1, e2]
    simp
/-- a row of several cells each, where other blocks are written. -/
theorem Row.trd {α : Type} {f : α → List Value} {s : Nat} (hf : ∀ a, (f a).length = s) {S : Nat → Prop} {w w' : World} {v : Value} {l : List α} (h : Row f s w v l) (ht : Trd S w w') (hv : ∀ b, v.ownBlock = some b → ¬ S b) : Row f s w' v l := by
  obtain ⟨a, cap, rfl, h1, h2, h3, h5⟩ := h
  refine ⟨a, cap, rfl, h1, h2, h3, fun ad had i hi => ?_⟩
  obtain ⟨h6, h7⟩ := h5 ad had i hi
  refine ⟨h6, ?_⟩
  have hlt : i < (l.flatMap f).length := by rw [flatR_len hf]; exact hi
  subst had
  rw [← h7]
  exact World.cell?_of_block (ht.block _ (World.block_lt_of_cell? w _ (h7.trans (List.getElem?_eq_getElem hlt))) (hv _ rfl))
theorem three_cells {w w' : World} {g k b : Nat} {u0 u1 u2 : Value} (ht : Trd (· = b) w w') (hg : g ≠ b) (hk : k ≠ b) (h0 : w.cell? ⟨g, 0, none⟩ = some u0) (h1 : w.cell? ⟨k, 0, none⟩ = some u1) (h2 : w.cell? ⟨k, 1, none⟩ = some u2) :
    w'.cell? ⟨g, 0, none⟩ = some u0 ∧ w'.cell? ⟨k, 0, none⟩ = some u1 ∧ w'.cell? ⟨k, 1, none⟩ = some u2 := by
  refine ⟨?_, ?_, ?_⟩
  · rw [World.cell?_of_block (w := w) (ht.block _ (World.block_lt_of_cell? w _ h0) hg)]; exact h0
  · rw [World.cell?_of_block (w := w) (ht.block _ (World.block_lt_of_cell? w _ h1) hk)]; exact h1
  · rw [World.cell?_of_block (w := w) (ht.block _ (World.block_lt_of_cell? w _ h2) hk)]; exact h2
/-- what lies behind all that was there counts for nothing. -/
theorem Trd.trans' {S S' : Nat → Prop} {w w1 w2 : World} (h : Trd S w w1) (k : Trd S' w1 w2) (hS : ∀ k, k < w.heap.size → ¬ S k → ¬ S' k) : Trd S w w2 :=
  ⟨k.os.trans h.os, k.tape.trans h.tape, k.output.trans h.output, Nat.le_trans h.size k.size, fun i hi hn => (k.block i (Nat.lt_of_lt_of_le hi h.size) (hS i hi hn)).trans (h.block i hi hn)⟩
end Go.Proofs.YtaojahjgfgmpfaaDoor
