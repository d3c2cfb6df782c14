import Derived.Test.YtongpgnnhpbcpaaGreatDoorNum
namespace Go.Proofs.YtongpgnnhpbcpaaGreatDoor
open Go.RowKit

set_option maxHeartbeats 1600000 in
/-- a number that is not within: the error at aR. -/
theorem num_range (B g p u n : Nat) (xs : List Int) (low high : Int) (aE aS aR : Addr) (w : World) (h : Rdr w B g xs p none) (hx : xs.length ≤ 1000000000) (hbyte : ∀ x ∈ xs, 0 ≤ x ∧ x ≤ 255)
    (h1 : w.cell? ⟨7, 0, none⟩ = some (errAt aE)) (h2 : w.cell? ⟨4, 0, none⟩ = some (errAt aS)) (h3 : w.cell? ⟨0, 0, none⟩ = some (errAt aR))
    (hd : dec 0 0 (xs.drop p) = .ok u n) (hr : uz u < low ∨ high < uz u) :
    Calls Tryz.prog 35 #[.pointer (some ⟨g, 0, none⟩), .int .i64 low, .int .i64 high] w fun e w' => e = .returned (.int .i64 0) ∧ Rdr w' B g xs p (some aR) ∧ w.grownBy w' (some g) := by
  have hend := hidden h
  obtain ⟨hB, hp, bv, errv, hg, hown, rfl⟩ := h
  obtain ⟨hc, hf⟩ := cells_of_block hg
  have hlt : g < w.heap.size := (Array.getElem?_eq_some_iff.1 hg).1
  have hc0 : w.cell? ⟨g, 0, none⟩ = some bv := hc 0
  have hc1 : w.cell? ⟨g, 1, none⟩ = some (.int .i64 (p : Int)) := hc 1
  have hc2 : w.cell? ⟨g, 2, none⟩ = some .nilIface := hc 2
  have hf2 := hf 2
  have hdrop : ∀ y ∈ xs.drop p, 0 ≤ y ∧ y ≤ 255 := fun y hy => hbyte y (List.mem_of_mem_drop hy)
  have hlen := dec_len _ _ _ _ _ hd
  simp at hlen
  have hk2 : ∀ m o, ((w.drewN m).alloc o).cell? ⟨g, 2, none⟩ = some .nilIface := fun m o => by
    have e : ((w.drewN m).alloc o).heap[g]? = w.heap[g]? := heap_alloc_old (w.drewN m) o hlt
    rw [World.cell?_of_block (w := w) e]; exact hc2
  have hk3 : ∀ m o, ((w.drewN m).alloc o).frozen? ⟨g, 2, none⟩ = false := fun m o => by
    have e : ((w.drewN m).alloc o).heap[g]? = w.heap[g]? := heap_alloc_old (w.drewN m) o hlt
    rw [World.frozen?_of_block (w := w) e]; exact hf2
  rcases hown.2 with ⟨rfl, hn0⟩ | ⟨gb, cap, cur, rfl, _, _, hnc, hcm, _, _⟩
  · omega
  · obtain ⟨r1, r2, _, _⟩ := reads_drop hown hp
    have hcap : ¬ cap = p := by omega
    have hfirst : ∀ m, Calls Tryz.prog 60 #[.slice (some ⟨gb, p, none⟩) (xs.length - p) (cap - p)] (w.drewN m) fun e w' => e = .returned (.tuple #[.int .i64 (uz (u : Int)), .int .i64 (n : Int), .nilIface]) ∧ ∃ k, w' = (w.drewN m).drewN k := fun m => by
      have := first_any _ (xs.drop p) (errAt aE) (errAt aS) (w.drewN m) (r2 hcap) (by simp; omega) hdrop h1 h2
      rw [hd] at this
      exact this
    have hfirst' := hidden hfirst
    have hr' := hr
    clear hc hf hg hown r1 r2 hfirst hdrop hbyte hd h1 h2 hlen hr
    by_cases hlo : uz u < low
    · clear hr'
      go_enter Tryz.func35, Tryz.ntmps35
      go_wp2_with fail
      go_quiet ((go_at_call 60; exact Calls.quiet_of (hfirst'.out _)))
      go_wp2
      go_ret
      obtain ⟨q1, q2⟩ := rdr_stopped (m := nq) hend.out aR
      exact ⟨rfl, q1, q2⟩
    · have hhi : high < uz u := by omega
      clear hr'
      go_enter Tryz.func35, Tryz.ntmps35
      go_wp2_with fail
      go_quiet ((go_at_call 60; exact Calls.quiet_of (hfirst'.out _)))
      go_wp2
      go_ret
      obtain ⟨q1, q2⟩ := rdr_stopped (m := nq) hend.out aR
      exact ⟨rfl, q1, q2⟩

/-- The three errors of wire stand in their variables. -/
def Errs3 (w : World) (aE aS aR : Addr) : Prop :=
  w.cell? ⟨7, 0, none⟩ = some (errAt aE) ∧ w.cell? ⟨4, 0, none⟩ = some (errAt aS) ∧ w.cell? ⟨0, 0, none⟩ = some (errAt aR)

/-- What reading a number from low to high at the beginning of xs comes to: the number and how long it is, or the error. -/
def numOf (aE aS aR : Addr) (xs : List Int) (low high : Int) : (Int × Nat) ⊕ Addr :=
  match dec 0 0 xs with
  | .fin => .inr aE
  | .shape => .inr aS
  | .ok u n => if low ≤ uz u ∧ uz u ≤ high then .inl (uz u, n) else .inr aR

theorem num_good (B g p n : Nat) (xs : List Int) (low high x : Int) (aE aS aR : Addr) (w : World) (h : Rdr w B g xs p none) (hx : xs.length ≤ 1000000000) (hbyte : ∀ x ∈ xs, 0 ≤ x ∧ x ≤ 255)
    (he : Errs3 w aE aS aR) (hd : numOf aE aS aR (xs.drop p) low high = .inl (x, n)) :
    Calls Tryz.prog 35 #[.pointer (some ⟨g, 0, none⟩), .int .i64 low, .int .i64 high] w fun e w' => e = .returned (.int .i64 x) ∧ Rdr w' B g xs (p + n) none ∧ w.grownBy w' (some g) := by
  unfold numOf at hd
  split at hd
  · cases hd
  · cases hd
  · rename_i u m hdec
    split at hd
    · rename_i hb
      cases hd
      exact num_ok B g p u n xs low high aE aS w h hx hbyte he.1 he.2.1 hdec hb.1 hb.2
    · cases hd

theorem num_bad (B g p : Nat) (xs : List Int) (low high : Int) (aE aS aR a : Addr) (w : World) (h : Rdr w B g xs p none) (hx : xs.length ≤ 1000000000) (hbyte : ∀ x ∈ xs, 0 ≤ x ∧ x ≤ 255)
    (he : Errs3 w aE aS aR) (hd : numOf aE aS aR (xs.drop p) low high = .inr a) :
    Calls Tryz.prog 35 #[.pointer (some ⟨g, 0, none⟩), .int .i64 low, .int .i64 high] w fun e w' => e = .returned (.int .i64 0) ∧ Rdr w' B g xs p (some a) ∧ w.grownBy w' (some g) := by
  unfold numOf at hd
  split at hd
  · rename_i hdec
    cases hd
    exact num_no B g p xs low high aE aS aE w h hx hbyte he.1 he.2.1 (by rw [hdec]; rfl)
  · rename_i hdec
    cases hd
    exact num_no B g p xs low high aE aS aS w h hx hbyte he.1 he.2.1 (by rw [hdec]; rfl)
  · rename_i u m hdec
    split at hd
    · cases hd
    · rename_i hb
      cases hd
      exact num_range B g p u m xs low high aE aS aR w h hx hbyte he.1 he.2.1 he.2.2 hdec (by omega)

/-- NewReader: at the beginning of a copy. -/
theorem newReader_any (v : Value) (xs : List Int) (w : World) (h : Reads .u8 w v xs) (hx : xs.length ≤ 1000000000) :
    Calls Tryz.prog 34 #[v] w fun e w' => ∃ g, e = .returned (.pointer (some ⟨g, 0, none⟩)) ∧ Rdr w' w.heap.size g xs 0 none ∧ Below w.heap.size w w' := by
  have h0 := hidden h
  obtain ⟨a, n, c, rfl, _⟩ := h
  go_enter Tryz.func34, Tryz.ntmps34
  go_wp2_with fail
  refine (clone_any _ xs _ h0.out hx).mono ?_
  rintro e w1 ⟨v1, rfl, hown, hb⟩
  obtain ⟨a1, n1, c1, hv⟩ : ∃ a n c, v1 = .slice a n c := by
    rcases hown.2 with ⟨h, _⟩ | ⟨_, _, _, h, _⟩ <;> exact ⟨_, _, _, h⟩
  rw [hv] at hown
  rw [hv]
  clear hv
  go_wp2
  go_ret
  refine ⟨w1.heap.size, rfl, ⟨hb.size, Nat.zero_le _, _, _, heap_alloc_new w1 _, hown.alloc _, rfl⟩, hb.alloc hb.size _⟩

theorem at_any (B g p : Nat) (xs : List Int) (bad : Option Addr) (w : World) (h : Rdr w B g xs p bad) :
    Calls Tryz.prog 38 #[.pointer (some ⟨g, 0, none⟩)] w fun e w' => e = .returned (.int .i64 (p : Int)) ∧ w = w' := by
  obtain ⟨hB, hp, bv, errv, hg, hown, _⟩ := h
  obtain ⟨hc, hf⟩ := cells_of_block hg
  have hc1 : w.cell? ⟨g, 1, none⟩ = some (.int .i64 (p : Int)) := hc 1
  clear hc hf hg hown
  go_enter Tryz.func38, Tryz.ntmps38
  go_wp2
  go_ret
  exact ⟨rfl, rfl⟩

theorem err_none (B g p : Nat) (xs : List Int) (w : World) (h : Rdr w B g xs p none) :
    Calls Tryz.prog 36 #[.pointer (some ⟨g, 0, none⟩)] w fun e w' => e = .returned .nilIface ∧ w = w' := by
  obtain ⟨hB, hp, bv, errv, hg, hown, rfl⟩ := h
  obtain ⟨hc, hf⟩ := cells_of_block hg
  have hc1 : w.cell? ⟨g, 2, none⟩ = some .nilIface := hc 2
  clear hc hf hg hown
  go_enter Tryz.func36, Tryz.ntmps36
  go_wp2
  go_ret
  exact ⟨rfl, rfl⟩

theorem err_some (B g p : Nat) (xs : List Int) (a : Addr) (w : World) (h : Rdr w B g xs p (some a)) :
    Calls Tryz.prog 36 #[.pointer (some ⟨g, 0, none⟩)] w fun e w' => ∃ ga, e = .returned (.iface 74 (.pointer (some ⟨ga, 0, none⟩))) ∧ w.heap[ga]? = some (.cells #[.int .i64 (p : Int), errAt a] 76 (0, 0)) ∧ w = w' := by
  obtain ⟨hB, hp, bv, errv, hg, hown, ga, rfl, _, _, hga⟩ := h
  obtain ⟨hc, hf⟩ := cells_of_block hg
  have hc1 : w.cell? ⟨g, 2, none⟩ = some (.iface 74 (.pointer (some ⟨ga, 0, none⟩))) := hc 2
  have hga' := hidden hga
  clear hc hf hg hown hga
  go_enter Tryz.func36, Tryz.ntmps36
  go_wp2
  go_ret
  exact ⟨ga, rfl, hga'.out, rfl⟩

theorem left_none (B g p : Nat) (xs : List Int) (w : World) (h : Rdr w B g xs p none) (hx : xs.length ≤ 1000000000) :
    Calls Tryz.prog 37 #[.pointer (some ⟨g, 0, none⟩)] w fun e w' => e = .returned (.int .i64 ((xs.length : Int) - (p : Int))) ∧ ∃ m, w' = w.drewN m := by
  obtain ⟨hB, hp, bv, errv, hg, hown, rfl⟩ := h
  obtain ⟨hc, hf⟩ := cells_of_block hg
  have hc0 : w.cell? ⟨g, 0, none⟩ = some bv := hc 0
  have hc1 : w.cell? ⟨g, 1, none⟩ = some (.int .i64 (p : Int)) := hc 1
  have hc2 : w.cell? ⟨g, 2, none⟩ = some .nilIface := hc 2
  rcases hown.2 with ⟨rfl, hn0⟩ | ⟨gb, cap, cur, rfl, _, _, hnc, hcm, _, _⟩
  · obtain rfl : p = 0 := by omega
    have e : ((xs.length : Int) - ((0 : Nat) : Int)) = 0 := by omega
    rw [e]
    clear hc hf hg hown e
    go_enter Tryz.func37, Tryz.ntmps37
    go_wp2_with fail
    go_quiet (fail)
    go_wp2
    go_ret
    exact ⟨rfl, _, rfl⟩
  · clear hc hf hg hown
    go_enter Tryz.func37, Tryz.ntmps37
    go_wp2_with fail
    go_quiet (fail)
    go_wp2
    go_ret
    exact ⟨rfl, _, rfl⟩

end Go.Proofs.YtongpgnnhpbcpaaGreatDoor
