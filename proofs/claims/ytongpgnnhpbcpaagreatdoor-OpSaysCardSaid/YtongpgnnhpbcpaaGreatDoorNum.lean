import Derived.Test.YtongpgnnhpbcpaaGreatDoorFirst
import Derived.Test.YtongpgnnhpbcpaaGreatDoorSee
namespace Go.Proofs.YtongpgnnhpbcpaaGreatDoor
open Go.RowKit

/-- A reader in block g: its bytes, its place, no error or the one at a, met there. -/
def Rdr (w : World) (B g : Nat) (xs : List Int) (p : Nat) (bad : Option Addr) : Prop :=
  B ≤ g ∧ p ≤ xs.length ∧ ∃ bv errv, w.heap[g]? = some (.cells #[bv, .int .i64 (p : Int), errv] 105 (0, 0)) ∧ w.ownsRow B 5 1 bv xs.length (cb xs) ∧
    match bad with
    | none => errv = .nilIface
    | some a => ∃ ga, errv = .iface 74 (.pointer (some ⟨ga, 0, none⟩)) ∧ ga ≠ g ∧ B ≤ ga ∧ w.heap[ga]? = some (.cells #[.int .i64 (p : Int), errAt a] 76 (0, 0))

theorem cells_of_block {w : World} {g : Nat} {cs : Array Value} {t : TypeId} (h : w.heap[g]? = some (.cells cs t (0, 0))) : (∀ o, w.cell? ⟨g, o, none⟩ = cs[o]?) ∧ (∀ o, w.frozen? ⟨g, o, none⟩ = false) := by
  refine ⟨fun o => ?_, fun o => ?_⟩
  · simp [World.cell?, h]
  · simp [World.frozen?, h]

/-- what 's[p:]' of an owned row reads as, in the walk's own form. -/
theorem reads_drop {w : World} {B : Nat} {gb n cap p : Nat} {xs : List Int} (h : w.ownsRow B 5 1 (.slice (some ⟨gb, 0, none⟩) n cap) xs.length (cb xs)) (hp : p ≤ xs.length) :
    (cap = p → Reads .u8 w (.slice (some ⟨gb, 0, none⟩) 0 0) (xs.drop p)) ∧ (¬ cap = p → Reads .u8 w (.slice (some ⟨gb, p, none⟩) (n - p) (cap - p)) (xs.drop p)) ∧ n = xs.length ∧ n ≤ cap := by
  have hr := reads_of_own (k := .u8) h
  obtain ⟨a', len, cap', e, h1, h2, h3, h4, h5⟩ := hr
  simp only [Value.slice.injEq] at e
  obtain ⟨rfl, rfl, rfl⟩ := e
  refine ⟨fun hc => ?_, fun hc => ?_, by omega, h2⟩
  · exact ⟨_, _, _, rfl, by simp; omega, by omega, by omega, (fun h => by cases h), fun ad had i hi => by omega⟩
  · refine ⟨_, _, _, rfl, by simp; omega, by omega, by omega, (fun h => by cases h), fun ad had i hi => ?_⟩
    obtain rfl := Option.some.inj had
    obtain ⟨_, h7⟩ := h5 _ rfl (p + i) (by omega)
    refine ⟨rfl, ?_⟩
    simp only [Nat.zero_add] at h7
    rw [h7]
    simp [List.getD_eq_getElem?_getD]

set_option maxHeartbeats 1600000 in
theorem num_stopped (B g p : Nat) (xs : List Int) (low high : Int) (a : Addr) (w : World) (h : Rdr w B g xs p (some a)) :
    Calls Tryz.prog 35 #[.pointer (some ⟨g, 0, none⟩), .int .i64 low, .int .i64 high] w fun e w' => e = .returned (.int .i64 0) ∧ w = w' := by
  obtain ⟨hB, hp, bv, errv, hg, hown, ga, rfl, hne, hBa, hga⟩ := h
  obtain ⟨hc, hf⟩ := cells_of_block hg
  have hc2 : w.cell? ⟨g, 2, none⟩ = some (.iface 74 (.pointer (some ⟨ga, 0, none⟩))) := hc 2
  clear hc hf hg hga hown
  go_enter Tryz.func35, Tryz.ntmps35
  go_wp2
  go_ret
  exact ⟨rfl, rfl⟩

theorem setCell_block {w : World} {g o : Nat} {cs : Array Value} {t : TypeId} {fr : Nat × Nat} (h : w.heap[g]? = some (.cells cs t fr)) (u : Value) :
    (w.setCell ⟨g, o, none⟩ u).heap[g]? = some (.cells (cs.setIfInBounds o u) t fr) := by
  simp [World.setCell, Array.getElem?_modify, h]
theorem setCell_grown (w : World) (g o : Nat) (u : Value) : w.grownBy (w.setCell ⟨g, o, none⟩ u) (some g) :=
  ⟨rfl, rfl, rfl, by simp [World.setCell], fun k _ hk => Below.heap_setCell _ _ _ _ (fun e => hk (by simp [e]))⟩
theorem own_other {w w' : World} {B g n : Nat} {cs : Array Value} {t e : TypeId} {fr : Nat × Nat} {size : Nat} {v : Value} {xs : List Value} (h : w.ownsRow B e size v n xs) (hg : w.heap[g]? = some (.cells cs t fr)) (ht : t ≠ e)
    (hk : w.grownBy w' (some g)) : w'.ownsRow B e size v n xs := by
  refine h.kept hk ?_
  rcases h.2 with ⟨rfl, _⟩ | ⟨gb, cap, cur, rfl, _, hgb, _⟩
  · exact .inl rfl
  · right
    intro e1
    simp only [Value.ownBlock, Option.some.injEq] at e1
    subst e1
    rw [hgb] at hg
    simp only [Option.some.injEq, Obj.cells.injEq] at hg
    exact ht hg.2.1.symm
theorem grownBy_trans {w w1 w2 : World} {r : Option Nat} (h : w.grownBy w1 r) (k : w1.grownBy w2 r) : w.grownBy w2 r :=
  ⟨k.os.trans h.os, k.tape.trans h.tape, k.output.trans h.output, Nat.le_trans h.size k.size, fun i hi hr => (k.block i (Nat.lt_of_lt_of_le hi h.size) hr).trans (h.block i hi hr)⟩
theorem grownBy_drewN (w : World) (m : Nat) (r : Option Nat) : w.grownBy (w.drewN m) r := ⟨rfl, rfl, rfl, Nat.le_refl _, fun _ _ _ => rfl⟩

/-- Behind a number that was read: the place has moved on. -/
theorem rdr_moved {w : World} {B g p n m : Nat} {xs : List Int} (h : Rdr w B g xs p none) (hn : p + n ≤ xs.length) :
    Rdr ((w.drewN m).setCell ⟨g, 1, none⟩ (.int .i64 ((p : Int) + (n : Int)))) B g xs (p + n) none ∧ w.grownBy ((w.drewN m).setCell ⟨g, 1, none⟩ (.int .i64 ((p : Int) + (n : Int)))) (some g) := by
  obtain ⟨hB, hp, bv, errv, hg, hown, rfl⟩ := h
  have hgr := grownBy_trans (grownBy_drewN w m (some g)) (setCell_grown (w.drewN m) g 1 (.int .i64 ((p : Int) + (n : Int))))
  refine ⟨⟨hB, hn, bv, _, ?_, own_other hown hg (by decide) hgr, rfl⟩, hgr⟩
  rw [setCell_block (w := w.drewN m) hg]
  rfl

/-- Behind the first error: it is kept, with its place. -/
theorem rdr_stopped {w : World} {B g p m : Nat} {xs : List Int} (h : Rdr w B g xs p none) (a : Addr) :
    Rdr (((w.drewN m).alloc (.cells #[.int .i64 (p : Int), errAt a] 76)).setCell ⟨g, 2, none⟩ (.iface 74 (.pointer (some ⟨w.heap.size, 0, none⟩)))) B g xs p (some a) ∧
      w.grownBy (((w.drewN m).alloc (.cells #[.int .i64 (p : Int), errAt a] 76)).setCell ⟨g, 2, none⟩ (.iface 74 (.pointer (some ⟨w.heap.size, 0, none⟩)))) (some g) := by
  obtain ⟨hB, hp, bv, errv, hg, hown, rfl⟩ := h
  have hlt : g < w.heap.size := (Array.getElem?_eq_some_iff.1 hg).1
  have hgr := grownBy_trans (grownBy_trans (grownBy_drewN w m (some g)) (World.grownBy_alloc (w.drewN m) (.cells #[.int .i64 (p : Int), errAt a] 76) (some g)))
    (setCell_grown ((w.drewN m).alloc (.cells #[.int .i64 (p : Int), errAt a] 76)) g 2 (.iface 74 (.pointer (some ⟨w.heap.size, 0, none⟩))))
  have hg' : ((w.drewN m).alloc (.cells #[.int .i64 (p : Int), errAt a] 76)).heap[g]? = some (.cells #[bv, .int .i64 (p : Int), .nilIface] 105 (0, 0)) := by
    rw [heap_alloc_old (w.drewN m) _ hlt]; exact hg
  refine ⟨⟨hB, hp, bv, _, ?_, own_other hown hg (by decide) hgr, w.heap.size, rfl, by omega, by omega, ?_⟩, hgr⟩
  · rw [setCell_block hg']; rfl
  · rw [Below.heap_setCell _ _ _ _ (by simp; omega)]
    exact heap_alloc_new (w.drewN m) _

set_option maxHeartbeats 1600000 in
theorem num_ok (B g p u n : Nat) (xs : List Int) (low high : Int) (aE aS : Addr) (w : World) (h : Rdr w B g xs p none) (hx : xs.length ≤ 1000000000) (hbyte : ∀ x ∈ xs, 0 ≤ x ∧ x ≤ 255)
    (h1 : w.cell? ⟨7, 0, none⟩ = some (errAt aE)) (h2 : w.cell? ⟨4, 0, none⟩ = some (errAt aS))
    (hd : dec 0 0 (xs.drop p) = .ok u n) (hlo : low ≤ uz u) (hhi : uz u ≤ high) :
    Calls Tryz.prog 35 #[.pointer (some ⟨g, 0, none⟩), .int .i64 low, .int .i64 high] w fun e w' => e = .returned (.int .i64 (uz u)) ∧ Rdr w' B g xs (p + n) none ∧ w.grownBy w' (some g) := by
  have hend := hidden h
  obtain ⟨hB, hp, bv, errv, hg, hown, rfl⟩ := h
  obtain ⟨hc, hf⟩ := cells_of_block hg
  have hc0 : w.cell? ⟨g, 0, none⟩ = some bv := hc 0
  have hc1 : w.cell? ⟨g, 1, none⟩ = some (.int .i64 (p : Int)) := hc 1
  have hc2 : w.cell? ⟨g, 2, none⟩ = some .nilIface := hc 2
  have hf1 := hf 1
  have hdrop : ∀ y ∈ xs.drop p, 0 ≤ y ∧ y ≤ 255 := fun y hy => hbyte y (List.mem_of_mem_drop hy)
  have hlen := dec_len _ _ _ _ _ hd
  simp at hlen
  have hpn : p + n ≤ xs.length := by omega
  have h63 : (p : Int) + (n : Int) ≤ 1000000000 := by omega
  rcases hown.2 with ⟨rfl, hn0⟩ | ⟨gb, cap, cur, rfl, _, _, hnc, hcm, _, _⟩
  · omega
  · obtain ⟨r1, r2, _, _⟩ := reads_drop hown hp
    have hcap : ¬ cap = p := by omega
    have hfirst : ∀ m, Calls Tryz.prog 60 #[.slice (some ⟨gb, p, none⟩) (xs.length - p) (cap - p)] (w.drewN m) fun e w' => e = .returned (.tuple #[.int .i64 (uz (u : Int)), .int .i64 (n : Int), .nilIface]) ∧ ∃ k, w' = (w.drewN m).drewN k := fun m => by
      have := first_any _ (xs.drop p) (errAt aE) (errAt aS) (w.drewN m) (r2 hcap) (by simp; omega) hdrop h1 h2
      rw [hd] at this
      exact this
    have hfirst' := hidden hfirst
    clear hc hf hg hown r1 r2 hfirst hdrop hbyte hd h1 h2 hlen
    go_enter Tryz.func35, Tryz.ntmps35
    go_wp2_with fail
    go_quiet ((go_at_call 60; exact Calls.quiet_of (hfirst'.out _)))
    go_wp2
    go_ret
    obtain ⟨q1, q2⟩ := rdr_moved (m := nq) hend.out hpn
    exact ⟨rfl, q1, q2⟩

set_option maxHeartbeats 1600000 in
/-- bytes that are no number: the error at a. -/
theorem num_no (B g p : Nat) (xs : List Int) (low high : Int) (aE aS a : Addr) (w : World) (h : Rdr w B g xs p none) (hx : xs.length ≤ 1000000000) (hbyte : ∀ x ∈ xs, 0 ≤ x ∧ x ≤ 255)
    (h1 : w.cell? ⟨7, 0, none⟩ = some (errAt aE)) (h2 : w.cell? ⟨4, 0, none⟩ = some (errAt aS))
    (hd : decVal (errAt aE) (errAt aS) (dec 0 0 (xs.drop p)) = .tuple #[.int .i64 0, .int .i64 0, errAt a]) :
    Calls Tryz.prog 35 #[.pointer (some ⟨g, 0, none⟩), .int .i64 low, .int .i64 high] w fun e w' => e = .returned (.int .i64 0) ∧ Rdr w' B g xs p (some a) ∧ w.grownBy w' (some g) := by
  have hend := hidden h
  obtain ⟨hB, hp, bv, errv, hg, hown, rfl⟩ := h
  obtain ⟨hc, hf⟩ := cells_of_block hg
  have hlt : g < w.heap.size := (Array.getElem?_eq_some_iff.1 hg).1
  have hc0 : w.cell? ⟨g, 0, none⟩ = some bv := hc 0
  have hc1 : w.cell? ⟨g, 1, none⟩ = some (.int .i64 (p : Int)) := hc 1
  have hc2 : w.cell? ⟨g, 2, none⟩ = some .nilIface := hc 2
  have hf2 := hf 2
  have hdrop : ∀ y ∈ xs.drop p, 0 ≤ y ∧ y ≤ 255 := fun y hy => hbyte y (List.mem_of_mem_drop hy)
  have hf1 : ∀ V, Reads .u8 w V (xs.drop p) → Hid (∀ m, Calls Tryz.prog 60 #[V] (w.drewN m) fun e w' => e = .returned (.tuple #[.int .i64 0, .int .i64 0, errAt a]) ∧ ∃ k, w' = (w.drewN m).drewN k) := fun V hV => hidden fun m => by
    have := first_any V (xs.drop p) (errAt aE) (errAt aS) (w.drewN m) hV (by simp; omega) hdrop h1 h2
    rw [hd] at this
    exact this
  have hk2 : ∀ m o, ((w.drewN m).alloc o).cell? ⟨g, 2, none⟩ = some .nilIface := fun m o => by
    have e : ((w.drewN m).alloc o).heap[g]? = w.heap[g]? := heap_alloc_old (w.drewN m) o hlt
    rw [World.cell?_of_block (w := w) e]; exact hc2
  have hk3 : ∀ m o, ((w.drewN m).alloc o).frozen? ⟨g, 2, none⟩ = false := fun m o => by
    have e : ((w.drewN m).alloc o).heap[g]? = w.heap[g]? := heap_alloc_old (w.drewN m) o hlt
    rw [World.frozen?_of_block (w := w) e]; exact hf2
  have hk4 : ∀ m, (w.drewN m).heap.size = w.heap.size := fun m => rfl
  rcases hown.2 with ⟨rfl, hn0⟩ | ⟨gb, cap, cur, rfl, _, _, hnc, hcm, _, _⟩
  · have : xs = [] := List.eq_nil_of_length_eq_zero hn0
    subst this
    obtain rfl : p = 0 := by simpa using hp
    have hfirst' := hf1 _ (Reads.nil .u8 w)
    clear hc hf hg hown hf1 hdrop hbyte hd h1 h2
    go_enter Tryz.func35, Tryz.ntmps35
    go_wp2_with fail
    go_quiet ((go_at_call 60; exact Calls.quiet_of (hfirst'.out _)))
    go_wp2
    go_ret
    obtain ⟨q1, q2⟩ := rdr_stopped (m := nq) hend.out a
    exact ⟨rfl, q1, q2⟩
  · obtain ⟨r1, r2, _, _⟩ := reads_drop hown hp
    by_cases hcap : cap = p
    · subst hcap
      have hfirst' := hf1 _ (r1 rfl)
      clear hc hf hg hown hf1 hdrop hbyte hd h1 h2 r1 r2
      go_enter Tryz.func35, Tryz.ntmps35
      go_wp2_with fail
      go_quiet ((go_at_call 60; exact Calls.quiet_of (hfirst'.out _)))
      go_wp2
      go_ret
      obtain ⟨q1, q2⟩ := rdr_stopped (m := nq) hend.out a
      exact ⟨rfl, q1, q2⟩
    · have hfirst' := hf1 _ (r2 hcap)
      clear hc hf hg hown hf1 hdrop hbyte hd h1 h2 r1 r2
      go_enter Tryz.func35, Tryz.ntmps35
      go_wp2_with fail
      go_quiet ((go_at_call 60; exact Calls.quiet_of (hfirst'.out _)))
      go_wp2
      go_ret
      obtain ⟨q1, q2⟩ := rdr_stopped (m := nq) hend.out a
      exact ⟨rfl, q1, q2⟩
end Go.Proofs.YtongpgnnhpbcpaaGreatDoor
