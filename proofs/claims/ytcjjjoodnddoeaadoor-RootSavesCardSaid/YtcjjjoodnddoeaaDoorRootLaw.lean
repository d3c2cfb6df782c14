/-
  Save and Load as the statements use them; the chapter's example.
-/
import Derived.Test.YtcjjjoodnddoeaaDoorRoot5
import Derived.Test.YtcjjjoodnddoeaaDoorDiskLaw
namespace Go.Proofs.YtcjjjoodnddoeaaDoor
open Go.RowKit
set_option linter.unusedVariables false

/-! What is on a disk behind its calls. -/
theorem see_flush (D : Dk) (j : Nat) : D.flush.see j = D.see j := by simp [Dk.see, Dk.flush, pget_nil]
theorem see_write (D : Dk) (i : Int) (s : List Int) (j : Nat) : (D.write i s).see j = if i = (j : Int) then s else D.see j := by
  simp only [Dk.see, Dk.write, pget_put]
  split <;> rfl
theorem see_crash0 {D : Dk} (h : D.ps = []) (picks : List Int) (j : Nat) : (D.crash picks).see j = D.see j := by
  simp [Dk.see, Dk.crash, h, crN, pget_nil]
theorem see_crash1 {D : Dk} {i : Nat} {s : List Int} (h : D.ps = [((i : Int), s)]) (picks : List Int) (j : Nat) : (D.crash picks).see j = if j = i then mix (picks.getD 0 0) s (D.fl i) else D.fl j := by
  simp [Dk.see, Dk.crash, h, crN, upd, pget_nil]
theorem mix_torn (p : Int) (s f : List Int) : mix p s f = torn (rch p) s f := rfl
theorem putP_nil (i : Int) (s : List Int) : putP [] i s = [(i, s)] := rfl

/-! Calm calls. -/
def savD (D : Dk) (e : Int) (xs : List Int) : Dk := (D.write (e % 2) (rtB e xs)).flush
theorem savD_calm {D : Dk} (h : D.Calm) (e : Int) (xs : List Int) : (savD D e xs).Calm := (h.write _ _).flush
theorem savD_n (D : Dk) (e : Int) (xs : List Int) : (savD D e xs).n = D.n := rfl
theorem savD_ps (D : Dk) (e : Int) (xs : List Int) : (savD D e xs).ps = [] := rfl
theorem savD_see (D : Dk) (e : Int) (xs : List Int) (j : Nat) : (savD D e xs).see j = if e % 2 = (j : Int) then rtB e xs else D.see j := by
  rw [savD, see_flush, see_write]
theorem calm_sv {D : Dk} (h : D.Calm) (hn : 2 ≤ D.n) {e : Int} {xs : List Int} (hr : RtOk e xs) : svC D e xs = 0 ∧ svD D e xs = savD D e xs := by
  have h0 := rtC_ok.2 hr
  have h1 : wrC D (e % 2) 128 = 0 := by
    have : 0 ≤ e % 2 ∧ e % 2 < D.n := by omega
    simp [wrC, h.power, h.down, this]
  have h2 : wrD D (e % 2) (rtB e xs) = D.write (e % 2) (rtB e xs) := by
    rw [wrD, (rtB_ok hr).1, h1, if_pos rfl, h.power]
  have h3 := h.write (e % 2) (rtB e xs)
  refine ⟨?_, ?_⟩
  · rw [svC, if_neg (by simp [h0]), if_neg (by simp [h1]), h2, flC, h3.power, h3.down]; rfl
  · rw [svD, if_neg (by simp [h0]), if_neg (by simp [h1]), h2, flD, h3.power, h3.down]; rfl
theorem calm_ld {D : Dk} (h : D.Calm) (hn : 2 ≤ D.n) : ldC D = 0 ∧ ldO D = loadOf D := by
  have h1 : ldC D = 0 := by
    rw [ldC, h.down, if_neg (by decide), if_neg (by omega)]
  exact ⟨h1, by rw [ldO, h1, if_pos rfl]⟩

section
variable {w0 W : World} {d g m : Nat} {D : Dk}
theorem ErrsOn.law {js : List Nat} {A : Nat → Addr} (hE : ErrsOn js w0 A) (h : LawAt w0 W d g m D) : ErrsOn js W A := hE.below h.low (Nat.le_refl _)
def LSaveAny (A : Nat → Addr) (w0 W : World) (d g m : Nat) (D : Dk) (e : Int) (xs : List Int) (r : Ending) (W' : World) : Prop := r = .returned (errOf A (svC D e xs)) ∧ LawAt w0 W' d g m (svD D e xs) ∧ Trd (dskB d g m) W W'
theorem lsaveAny {A : Nat → Addr} (h : LawAt w0 W d g m D) (hE : ErrsOn [1, 2, 4, 7, 8] w0 A) (e : Int) (xs : List Int) {v : Value} (hr : Reads .i64 W v xs) :
    Calls Tryd.prog 17 #[.pointer (some ⟨d, 0, none⟩), .agg #[.int .i64 e, v]] W (LSaveAny A w0 W d g m D e xs) := by
  refine (save_any A h.at_ e v xs hr (hE.law h)).mono ?_
  rintro r W' ⟨rfl, hd, ht⟩
  exact ⟨rfl, h.trd hd ht, ht⟩
def LSave (w0 W : World) (d g m : Nat) (D : Dk) (e : Int) (xs : List Int) (r : Ending) (W' : World) : Prop := r = .returned .nilIface ∧ LawAt w0 W' d g m (savD D e xs) ∧ Trd (dskB d g m) W W'
theorem lsave {A : Nat → Addr} (h : LawAt w0 W d g m D) (hE : ErrsOn [1, 2, 4, 7, 8] w0 A) (hc : D.Calm) (hn : 2 ≤ D.n) {e : Int} {xs : List Int} (ho : RtOk e xs) {v : Value} (hr : Reads .i64 W v xs) :
    Calls Tryd.prog 17 #[.pointer (some ⟨d, 0, none⟩), .agg #[.int .i64 e, v]] W (LSave w0 W d g m D e xs) := by
  refine (lsaveAny h hE e xs hr).mono ?_
  rintro r W' ⟨rfl, hd, ht⟩
  obtain ⟨e1, e2⟩ := calm_sv hc hn ho
  rw [e2] at hd
  exact ⟨by rw [e1]; rfl, hd, ht⟩
def LLoad (w0 W : World) (d g m : Nat) (D : Dk) (r : Ending) (W' : World) : Prop := ∃ v, r = .returned (.tuple #[.agg #[.int .i64 (ev (loadOf D)), v], .bool (loadOf D).isSome, .nilIface]) ∧ LawAt w0 W' d g m D ∧ Reads .i64 W' v (lvL (loadOf D)) ∧ (∀ b, v.ownBlock = some b → W.heap.size ≤ b) ∧ (loadOf D = none → v = .slice none 0 0) ∧ Below W.heap.size W W'
theorem lload {A : Nat → Addr} (h : LawAt w0 W d g m D) (hE : ErrsOn [1, 2, 4, 7, 8] w0 A) (hc : D.Calm) (hn : 2 ≤ D.n) : Calls Tryd.prog 20 #[.pointer (some ⟨d, 0, none⟩)] W (LLoad w0 W d g m D) := by
  refine (load_any A h.at_ ((hE.sub (by decide)).law h)).mono ?_
  rintro r W' ⟨hb, v, rfl, hr, hf, hn0⟩
  obtain ⟨e1, e2⟩ := calm_ld hc hn
  rw [e1, e2]
  rw [e2] at hr hn0
  exact ⟨v, rfl, h.below hb, hr, hf, hn0, hb⟩
def LLoad0 (w0 W : World) (d g m : Nat) (D : Dk) (r : Ending) (W' : World) : Prop := r = .returned (.tuple #[.agg #[.int .i64 0, .slice none 0 0], .bool false, .nilIface]) ∧ LawAt w0 W' d g m D ∧ Below W.heap.size W W'
theorem lload0 {A : Nat → Addr} (h : LawAt w0 W d g m D) (hE : ErrsOn [1, 2, 4, 7, 8] w0 A) (hc : D.Calm) (hn : 2 ≤ D.n) (ho : loadOf D = none) : Calls Tryd.prog 20 #[.pointer (some ⟨d, 0, none⟩)] W (LLoad0 w0 W d g m D) := by
  refine (lload h hE hc hn).mono ?_
  rintro r W' ⟨v, rfl, hd, _, _, hv, hb⟩
  obtain rfl := hv ho
  rw [ho]
  exact ⟨rfl, hd, hb⟩
def LLoad1 (w0 W : World) (d g m : Nat) (D : Dk) (e : Int) (xs : List Int) (r : Ending) (W' : World) : Prop := ∃ v, r = .returned (.tuple #[.agg #[.int .i64 e, v], .bool true, .nilIface]) ∧ LawAt w0 W' d g m D ∧ Reads .i64 W' v xs ∧ (∀ b, v.ownBlock = some b → W.heap.size ≤ b) ∧ Below W.heap.size W W'
theorem lload1 {A : Nat → Addr} (h : LawAt w0 W d g m D) (hE : ErrsOn [1, 2, 4, 7, 8] w0 A) (hc : D.Calm) (hn : 2 ≤ D.n) {e : Int} {xs : List Int} (ho : loadOf D = some (e, xs)) : Calls Tryd.prog 20 #[.pointer (some ⟨d, 0, none⟩)] W (LLoad1 w0 W d g m D e xs) := by
  refine (lload h hE hc hn).mono ?_
  rintro r W' ⟨v, rfl, hd, hr, hf, _, hb⟩
  rw [ho] at hr ⊢
  exact ⟨v, rfl, hd, hr, hf, hb⟩
def LArm6 (w0 W : World) (d g m : Nat) (D : Dk) (n : Int) (e : Ending) (W' : World) : Prop := e = .returned (.tuple #[]) ∧ LawAt w0 W' d g m (D.arm n) ∧ Trd (dskB d g m) W W'
theorem larm6 (h : LawAt w0 W d g m D) (n : Int) (hn : -9223372036854775808 ≤ n) (hn2 : n ≤ 9223372036854775807) : Calls Tryd.prog 18 #[.pointer (some ⟨d, 0, none⟩), .int .i64 n] W (LArm6 w0 W d g m D n) := by
  refine (arm_any h.at_ n hn hn2).mono ?_
  rintro e W' ⟨rfl, hd, ht⟩
  exact ⟨rfl, h.trd hd ht, ht⟩
end

/-! The chapter's example. -/
theorem load_new {n : Nat} : loadOf (newDk n) = none := by
  have h : ∀ i, rootOf ((newDk n).see i) = none := fun i => by
    have : (newDk n).see i = zs128 := rfl
    rw [this, rootOf_zs]
  simp [loadOf, bestK, better, h]
set_option maxRecDepth 100000 in
set_option maxHeartbeats 4000000 in
theorem law6_first (A : Nat → Addr) (w : World) (hE : ErrsOn [1, 2, 4, 7, 8] w A) :
    Calls Tryd.prog 7 #[] w fun e w' => e = .returned (.bool true) ∧ Below w.heap.size w w' := by
  have hE' := hidden hE
  clear hE
  have hl := hidden (@load_new 4)
  go_enter Tryd.func7, Tryd.ntmps7
  go_wp2_with fail
  refine (lnew 4 (by decide) (by decide) (Below.refl _ w)).mono ?_
  rintro e w1 ⟨d, g, m, rfl, h1, _, _⟩
  replace h1 := hidden h1
  go_wp2_with fail
  refine (lload0 h1.out hE'.out (calm_new 4) (by decide) hl.out).mono ?_
  rintro e w2 ⟨rfl, h2, _⟩
  replace h2 := hidden h2
  have h3 := hidden (h2.out.below ((Below.refl w2.heap.size w2).alloc (Nat.le_refl _) (rtO 0 (.slice none 0 0))))
  go_wp2_with fail
  refine (lsave h3.out hE'.out (calm_new 4) (by decide) (e := 1) (xs := []) ⟨by decide, by decide, by simp, by simp⟩ (Reads.nil _ _)).mono ?_
  rintro e w4 ⟨rfl, h4, _⟩
  have hlow := hidden h4.low
  clear h1 h2 h3 h4
  go_wp2
  go_ret
  exact ⟨rfl, hlow.out⟩
end Go.Proofs.YtcjjjoodnddoeaaDoor
