import Derived.Test.YtongpgnnhpbcpaaGreatDoorWireCutsWalk
namespace Go.Proofs.YtongpgnnhpbcpaaGreatDoor
open Go.RowKit

/-- A reader is as it was while another one reads on. -/
theorem Rdr.other {w w' : World} {B g p gx : Nat} {xs : List Int} {cs : Array Value} {fr : Nat × Nat} (h : Rdr w B g xs p none) (hx : w.heap[gx]? = some (.cells cs 105 fr)) (hne : gx ≠ g) (hk : w.grownBy w' (some gx)) : Rdr w' B g xs p none := by
  obtain ⟨hB, hp, bv, errv, hg, hown, he⟩ := h
  refine ⟨hB, hp, bv, errv, by rw [hk.block g (Array.getElem?_eq_some_iff.1 hg).1 (fun e => hne (Option.some.inj e).symm)]; exact hg, own_other hown hx (by decide) hk, he⟩
theorem Rdr.block {w : World} {B g p : Nat} {xs : List Int} {bad : Option Addr} (h : Rdr w B g xs p bad) : ∃ cs, w.heap[g]? = some (.cells cs 105 (0, 0)) := by
  obtain ⟨hB, hp, bv, errv, hg, _⟩ := h
  exact ⟨_, hg⟩

/-- the numbers one behind the other, of all of them. -/
theorem all_num (aE aS aR : Addr) (l : List Int) (i : Nat) (low high : Int) (h : i < l.length) (hr : ∀ n ∈ l, -9223372036854775808 ≤ n ∧ n ≤ 9223372036854775807) :
    numOf aE aS aR ((encs l).drop (encs (l.take i)).length) low high = if low ≤ l.getD i 0 ∧ l.getD i 0 ≤ high then .inl (l.getD i 0, (enc (zz (l.getD i 0)).toNat).length) else .inr aR := by
  have hx := hr _ (getD_mem l i h)
  rw [encs_split l i h, numOf_enc _ _ _ _ _ _ _ hx.1 hx.2]

/-- two readers of l's bytes, at their places. -/
def TwinRel (w : World) (Bx gx By gy : Nat) (l : List Int) (i j : Nat) (wr : World) : Prop :=
  Rdr wr Bx gx (encs l) (encs (l.take i)).length none ∧ Rdr wr By gy (encs l) (encs (l.take j)).length none ∧ Below w.heap.size w wr
def Twin1 (w : World) (Bx gx By gy : Nat) (l : List Int) (k : Nat) (i : Value) (wr : World) : Prop := ∃ j : Nat, i = .int .i64 (j : Int) ∧ j ≤ k ∧ TwinRel w Bx gx By gy l j 0 wr
def Twin2 (w : World) (Bx gx By gy : Nat) (l : List Int) (k : Nat) (i : Value) (wr : World) : Prop := ∃ j : Nat, i = .int .i64 (j : Int) ∧ j ≤ l.length ∧ TwinRel w Bx gx By gy l k j wr

/-- one number read by the first, by the second. -/
theorem twin_x {w wr : World} {Bx gx By gy i j : Nat} {l : List Int} {A : Nat → Addr} (h : TwinRel w Bx gx By gy l i j wr) (hi : i < l.length) (hr : ∀ n ∈ l, -9223372036854775808 ≤ n ∧ n ≤ 9223372036854775807) (hlen : (encs l).length ≤ 200)
    (hS : Sents w A) (hne : gx ≠ gy) (hB : w.heap.size ≤ Bx) (low high : Int) (hb : low ≤ l.getD i 0 ∧ l.getD i 0 ≤ high) :
    Calls Tryz.prog 35 #[.pointer (some ⟨gx, 0, none⟩), .int .i64 low, .int .i64 high] wr fun e w' => e = .returned (.int .i64 (l.getD i 0)) ∧ TwinRel w Bx gx By gy l (i + 1) j w' := by
  obtain ⟨h1, h2, h3⟩ := h
  refine (num_good Bx gx _ _ (encs l) low high (l.getD i 0) (A 0) (A 1) (A 2) wr h1 (by omega) (encs_byte l) (errs_of (hS.below h3 (Nat.le_refl _))) (by rw [all_num _ _ _ l i low high hi hr, if_pos hb])).mono ?_
  rintro e w' ⟨rfl, hR, hg⟩
  obtain ⟨cs, hc⟩ := h1.block
  refine ⟨rfl, by rw [encs_take_succ l i hi]; exact hR, h2.other hc hne hg, below_grown h3 hg h1.1 hB⟩
theorem TwinRel.swap {w wr : World} {Bx gx By gy i j : Nat} {l : List Int} (h : TwinRel w Bx gx By gy l i j wr) : TwinRel w By gy Bx gx l j i wr := ⟨h.2.1, h.1, h.2.2⟩
theorem TwinRel.drew {w wr : World} {Bx gx By gy i j m : Nat} {l : List Int} (h : TwinRel w Bx gx By gy l i j wr) : TwinRel w Bx gx By gy l i j (wr.drewN m) := ⟨h.1, h.2.1, below_drewN h.2.2⟩
theorem TwinRel.drew1 {w wr : World} {Bx gx By gy i j : Nat} {l : List Int} (h : TwinRel w Bx gx By gy l i j wr) : TwinRel w Bx gx By gy l i j wr.drew := h.drew (m := 1)
theorem TwinRel.cell {w wr : World} {Bx gx By gy i j k c bl ol m : Nat} {l : List Int} (h : TwinRel w Bx gx By gy l i j wr) (hr : Reads .i64 w (.slice (some ⟨bl, ol, none⟩) m c) l) (hk : k < m) : wr.cell? ⟨bl, ol + k, none⟩ = some (.int .i64 (l.getD k 0)) := by
  obtain ⟨b, o, e1, e2⟩ := (hr.below h.2.2 (Nat.le_refl _)).cell k hk
  simp only [Option.some.injEq, Addr.mk.injEq, and_true] at e1
  obtain ⟨rfl, rfl⟩ := e1
  exact e2

end Go.Proofs.YtongpgnnhpbcpaaGreatDoor
