/-
  The disk's calls as the statements use them; the chapter's example.
-/
import Derived.Test.YtcjjjoodnddoeaaDoorDisk8
namespace Go.Proofs.YtcjjjoodnddoeaaDoor
open Go.RowKit Go.Maps
set_option linter.unusedVariables false

def rep (b : Int) : List Int := List.replicate 128 b
theorem rep_len (b : Int) : (rep b).length = 128 := by simp [rep]
theorem rep_ok {b : Int} (h : 0 ≤ b ∧ b < 256) : secOk (rep b) := secOk_rep h
/-- a disk of the statement's own. -/
structure LawAt (w0 W : World) (d g m : Nat) (D : Dk) : Prop where
  at_ : DiskAt W d g m D
  low : Below w0.heap.size w0 W
  d0 : w0.heap.size ≤ d
  g0 : w0.heap.size ≤ g
  m0 : w0.heap.size ≤ m
section
variable {w0 W W' : World} {d g m : Nat} {D D' : Dk}
theorem LawAt.hS (h : LawAt w0 W d g m D) : ∀ k, dskB d g m k → w0.heap.size ≤ k := fun k hk => by
  rcases hk with rfl | rfl | rfl
  · exact h.d0
  · exact h.g0
  · exact h.m0
theorem LawAt.trd (h : LawAt w0 W d g m D) (hd : DiskAt W' d g m D') (ht : Trd (dskB d g m) W W') : LawAt w0 W' d g m D' := ⟨hd, h.low.trans (ht.below h.hS h.low.size), h.d0, h.g0, h.m0⟩
theorem LawAt.below (h : LawAt w0 W d g m D) (hb : Below W.heap.size W W') : LawAt w0 W' d g m D := ⟨h.at_.below hb (Nat.le_refl _), h.low.trans (hb.mono h.low.size), h.d0, h.g0, h.m0⟩
/-- a call on another disk. -/
theorem LawAt.other {S : Nat → Prop} (h : LawAt w0 W d g m D) (ht : Trd S W W') (hS : ∀ k, S k → w0.heap.size ≤ k) (ha : ∀ k, dskB d g m k → ¬ S k) : LawAt w0 W' d g m D :=
  ⟨h.at_.trd ht (ha d (.inl rfl)) (ha g (.inr (.inl rfl))) (ha m (.inr (.inr rfl))), h.low.trans (ht.below hS h.low.size), h.d0, h.g0, h.m0⟩
theorem LawAt.lt (h : LawAt w0 W d g m D) : ∀ k, dskB d g m k → k < W.heap.size := fun k hk => by
  rcases hk with rfl | rfl | rfl
  · exact h.at_.dlt
  · exact h.at_.glt
  · exact h.at_.mlt
theorem fresh_apart (h : LawAt w0 W d g m D) {gb n c : Nat} (hg : W.heap.size ≤ gb) : ∀ b, (Value.slice (some ⟨gb, 0, none⟩) n c).ownBlock = some b → ¬ dskB d g m b := fun b hb hs => by
  have := h.lt b hs
  simp only [Value.ownBlock, Option.some.injEq] at hb
  omega
end
structure Dk.Calm (D : Dk) : Prop where
  armed : D.armed = 0
  down : D.down = false
theorem Dk.Calm.power {D : Dk} (h : D.Calm) : D.power = D := by simp [Dk.power, h.armed]
theorem Dk.Calm.write {D : Dk} (h : D.Calm) (i : Int) (s : List Int) : (D.write i s).Calm := ⟨h.armed, h.down⟩
theorem Dk.Calm.flush {D : Dk} (h : D.Calm) : D.flush.Calm := ⟨h.armed, h.down⟩
theorem calm_crash (D : Dk) (picks : List Int) : (D.crash picks).Calm := ⟨rfl, rfl⟩
theorem calm_new (n : Nat) : (newDk n).Calm := ⟨rfl, rfl⟩

def LNew (n : Nat) (w0 W : World) (e : Ending) (W' : World) : Prop := ∃ d g m, e = .returned (.tuple #[.pointer (some ⟨d, 0, none⟩), .nilIface]) ∧ LawAt w0 W' d g m (newDk n) ∧ Below W.heap.size W W' ∧ ∀ k, dskB d g m k → W.heap.size ≤ k
theorem lnew (n : Nat) (h0 : 1 ≤ n) (h1 : n ≤ 8192) {w0 W : World} (hw : Below w0.heap.size w0 W) : Calls Tryd.prog 15 #[.int .i64 n] W (LNew n w0 W) := by
  refine (new_any n h0 h1 W).mono ?_
  rintro e W' ⟨d, g, m, rfl, hd, hg, hm, hD, hb⟩
  have := hw.size
  exact ⟨d, g, m, rfl, ⟨hD, hw.trans (hb.mono hw.size), by omega, by omega, by omega⟩, hb, fun k hk => by rcases hk with rfl | rfl | rfl <;> assumption⟩
section
variable {w0 W : World} {d g m : Nat} {D : Dk}
def LWrite (w0 W : World) (d g m : Nat) (D : Dk) (i : Int) (s : List Int) (e : Ending) (W' : World) : Prop := e = .returned .nilIface ∧ LawAt w0 W' d g m (D.write i s) ∧ Trd (dskB d g m) W W'
theorem lwrite {A : Nat → Addr} (h : LawAt w0 W d g m D) (hE : ErrsOn [1, 7, 8] W A) (hc : D.Calm) (i : Int) (h0 : 0 ≤ i) (h1 : i < D.n) {gb : Nat} {s : List Int} (hg : ∀ b, (Value.slice (some ⟨gb, 0, none⟩) 128 128).ownBlock = some b → ¬ dskB d g m b) (hs : secOk s) (hr : Reads .u8 W (.slice (some ⟨gb, 0, none⟩) 128 128) s) :
    Calls Tryd.prog 21 #[.pointer (some ⟨d, 0, none⟩), .int .i64 i, .slice (some ⟨gb, 0, none⟩) 128 128] W (LWrite w0 W d g m D i s) := by
  refine (write_any A h.at_ i hE hr hg hs.2).mono ?_
  rintro e W' ⟨rfl, hd, ht⟩
  have e1 : wrC D i s.length = 0 := by simp [wrC, hc.power, hc.down, h0, h1, hs.1]
  rw [wrD, e1, if_pos rfl, hc.power] at hd
  rw [e1]
  exact ⟨rfl, h.trd hd ht, ht⟩
def LFlush (w0 W : World) (d g m : Nat) (D : Dk) (e : Ending) (W' : World) : Prop := e = .returned .nilIface ∧ LawAt w0 W' d g m D.flush ∧ Trd (dskB d g m) W W'
theorem lflush {A : Nat → Addr} (h : LawAt w0 W d g m D) (hE : ErrsOn [1, 7, 8] W A) (hc : D.Calm) : Calls Tryd.prog 22 #[.pointer (some ⟨d, 0, none⟩)] W (LFlush w0 W d g m D) := by
  refine (flush_any A h.at_ (hE.sub (by decide))).mono ?_
  rintro e W' ⟨rfl, hd, ht⟩
  have e1 : flC D = 0 := by simp [flC, hc.power, hc.down]
  rw [flD, hc.power, hc.down] at hd
  rw [e1]
  exact ⟨rfl, h.trd hd ht, ht⟩
def LRead (w0 W : World) (d g m : Nat) (D : Dk) (i : Nat) (e : Ending) (W' : World) : Prop := ∃ gb, e = .returned (.tuple #[.slice (some ⟨gb, 0, none⟩) 128 128, .nilIface]) ∧ LawAt w0 W' d g m D ∧ Reads .u8 W' (.slice (some ⟨gb, 0, none⟩) 128 128) (D.see i) ∧ Below W.heap.size W W'
theorem lread {A : Nat → Addr} (h : LawAt w0 W d g m D) (hE : ErrsOn [1, 7, 8] W A) (hc : D.Calm) (i : Nat) (h1 : i < D.n) : Calls Tryd.prog 35 #[.pointer (some ⟨d, 0, none⟩), .int .i64 i] W (LRead w0 W d g m D i) := by
  refine (read_any A h.at_ i (hE.sub (by decide))).mono ?_
  rintro e W' ⟨hb, v, rfl, hv⟩
  have e1 : rdC D i = 0 := by simp [rdC, hc.down, h1]
  rcases hv with ⟨_, gb, rfl, _, hr⟩ | ⟨hne, _⟩
  · rw [e1]
    exact ⟨gb, rfl, h.below hb, by simpa using hr, hb⟩
  · exact absurd e1 hne
def LWhole (w0 W : World) (d g m : Nat) (D : Dk) (b : Int) (e : Ending) (W' : World) : Prop := ∃ gb, e = .returned (.slice (some ⟨gb, 0, none⟩) 128 128) ∧ LawAt w0 W' d g m D ∧ Reads .u8 W' (.slice (some ⟨gb, 0, none⟩) 128 128) (rep b) ∧ (∀ b, (Value.slice (some ⟨gb, 0, none⟩) 128 128).ownBlock = some b → ¬ dskB d g m b) ∧ Below W.heap.size W W'
def LCrash (w0 W : World) (d g m : Nat) (D : Dk) (picks : List Int) (e : Ending) (W' : World) : Prop := e = .returned (.tuple #[]) ∧ LawAt w0 W' d g m (D.crash picks) ∧ Trd (dskB d g m) W W'
theorem lcrash (h : LawAt w0 W d g m D) {pv : Value} {picks : List Int} (hr : Reads .i64 W pv picks) (hv : ∀ b, pv.ownBlock = some b → ¬ dskB d g m b) (hpk : ∀ p ∈ picks, -9223372036854775808 ≤ p ∧ p ≤ 9223372036854775807) :
    Calls Tryd.prog 19 #[.pointer (some ⟨d, 0, none⟩), pv] W (LCrash w0 W d g m D picks) := by
  refine (crash_any h.at_ hr hv hpk).mono ?_
  rintro e W' ⟨rfl, hd, ht⟩
  exact ⟨rfl, h.trd hd ht, ht⟩
end
/-- picks that came in. -/
theorem lcrashIn {w0 W : World} {d g m : Nat} {D : Dk} (h : LawAt w0 W d g m D) {pv : Value} {picks : List Int} (hr : Reads .i64 w0 pv picks) (hpk : ∀ p ∈ picks, -9223372036854775808 ≤ p ∧ p ≤ 9223372036854775807) :
    Calls Tryd.prog 19 #[.pointer (some ⟨d, 0, none⟩), pv] W (LCrash w0 W d g m D picks) := by
  refine (crash_reads h.at_ (fun W' ht => hr.below (h.low.trans (ht.below h.hS h.low.size)) (Nat.le_refl _)) hpk).mono ?_
  rintro e W' ⟨rfl, hd, ht⟩
  exact ⟨rfl, h.trd hd ht, ht⟩
def LClone (w0 W : World) (D : Dk) (e : Ending) (W' : World) : Prop := ∃ d g m, e = .returned (.pointer (some ⟨d, 0, none⟩)) ∧ LawAt w0 W' d g m D ∧ Below W.heap.size W W' ∧ ∀ k, dskB d g m k → W.heap.size ≤ k
/-- one pick, laid beside the call. -/
theorem one_pick {w0 W : World} {d g m : Nat} {D : Dk} (h : LawAt w0 W d g m D) (p : Int) (t : TypeId) : LawAt w0 (W.alloc (.cells #[.int .i64 p] t)) d g m D ∧ Reads .i64 (W.alloc (.cells #[.int .i64 p] t)) (.slice (some ⟨W.heap.size, 0, none⟩) 1 1) [p] ∧ (∀ b, (Value.slice (some ⟨W.heap.size, 0, none⟩) 1 1).ownBlock = some b → ¬ dskB d g m b) :=
  ⟨h.below ((Below.refl _ _).alloc (Nat.le_refl _) _), reads_new #[.int .i64 p] [p] 1 rfl rfl (by decide), fresh_apart h (Nat.le_refl _)⟩

/-! The chapter's example. -/
def exD : Dk := ((newDk 2).write 0 (rep 1)).crash [17]
theorem ex4 : (exD.see 0).getD 4 0 = 1 := by kernel_rfl
theorem ex5 : (exD.see 0).getD 5 0 = 0 := by kernel_rfl
end Go.Proofs.YtcjjjoodnddoeaaDoor
