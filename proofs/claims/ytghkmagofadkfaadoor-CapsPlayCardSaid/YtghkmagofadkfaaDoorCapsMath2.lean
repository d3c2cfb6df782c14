/-
  Groups of lines: a table of sums at each level; how one level comes of the next.
-/
import Derived.Test.YtghkmagofadkfaaDoorCapsMath
namespace Go.Proofs.YtghkmagofadkfaaDoor
open Go Go.RowKit
set_option linter.unusedVariables false

abbrev GrpT := Int × Int × Int
abbrev GTab := GrpT → Option Int
def grIn (s : GrpT) : Prop := (-9223372036854775808 ≤ s.1 ∧ s.1 ≤ 9223372036854775807) ∧ (-9223372036854775808 ≤ s.2.1 ∧ s.2.1 ≤ 9223372036854775807) ∧ (-9223372036854775808 ≤ s.2.2 ∧ s.2.2 ≤ 9223372036854775807)
def getG (G : GTab) (s : GrpT) : Int := (G s).getD 0
def noG : GTab := fun _ => none
theorem getG_upd (G : GTab) (s t : GrpT) (x : Int) : getG (updK G s x) t = if t = s then x else getG G t := by
  unfold getG updK
  split <;> rfl
/-- the groups of a level: 3 by class, currency and issuer, 2 by class and currency, 1 by class, 0 all. -/
def lvOk (k : Int) (s : GrpT) : Prop :=
  if k = 3 then (1 ≤ s.1 ∧ s.1 ≤ 6) ∧ (1 ≤ s.2.1 ∧ s.2.1 ≤ 6) ∧ (0 ≤ s.2.2 ∧ s.2.2 ≤ 32)
  else if k = 2 then (1 ≤ s.1 ∧ s.1 ≤ 6) ∧ (1 ≤ s.2.1 ∧ s.2.1 ≤ 6) ∧ s.2.2 = 0
  else if k = 1 then (1 ≤ s.1 ∧ s.1 ≤ 6) ∧ s.2.1 = 0 ∧ s.2.2 = 0
  else s.1 = 0 ∧ s.2.1 = 0 ∧ s.2.2 = 0
theorem lvOk.bd {k : Int} {s : GrpT} (h : lvOk k s) : (0 ≤ s.1 ∧ s.1 ≤ 6) ∧ (0 ≤ s.2.1 ∧ s.2.1 ≤ 6) ∧ (0 ≤ s.2.2 ∧ s.2.2 ≤ 32) := by
  unfold lvOk at h
  split at h
  · omega
  · split at h
    · omega
    · split at h <;> omega
theorem lvOk.isIn {k : Int} {s : GrpT} (h : lvOk k s) : grIn s := by have := h.bd; unfold grIn; omega
def lvV (T : CTab) (l : List Ln) (k : Int) (s : GrpT) : Int :=
  if k = 3 then s1 l s.1 s.2.1 s.2.2 else if k = 2 then s2 T l s.1 s.2.1 else if k = 1 then s3 T l s.1 else s4 T l
theorem lvV_nn {T : CTab} {l : List Ln} (h : ∀ x ∈ l, lnOk x) (k : Int) (s : GrpT) : 0 ≤ lvV T l k s := by
  unfold lvV
  split
  · exact s1_nn h _ _ _
  · split
    · exact s2_nn h _ _
    · split
      · exact s3_nn h _
      · exact s4_nn h
def fitK (T : CTab) (l : List Ln) (k : Int) : Prop := ∀ s, lvOk k s → lvV T l k s ≤ 1000000000000000
theorem fits_mk {T : CTab} {l : List Ln} (h3 : fitK T l 3) (h2 : fitK T l 2) (h1 : fitK T l 1) (h0 : fitK T l 0) : fits T l :=
  ⟨fun c a b => ⟨fun m d e => ⟨fun i f g => h3 (c, m, i) ⟨⟨a, b⟩, ⟨d, e⟩, ⟨f, g⟩⟩, h2 (c, m, 0) ⟨⟨a, b⟩, ⟨d, e⟩, rfl⟩⟩, h1 (c, 0, 0) ⟨⟨a, b⟩, rfl, rfl⟩⟩, h0 (0, 0, 0) ⟨rfl, rfl, rfl⟩⟩
theorem fits_at {T : CTab} {l : List Ln} (h : fits T l) {k : Int} (hk : k = 3 ∨ k = 2 ∨ k = 1 ∨ k = 0) : fitK T l k := fun s hs => by
  rcases hk with rfl | rfl | rfl | rfl
  · exact ((h.1 s.1 hs.1.1 hs.1.2).1 s.2.1 hs.2.1.1 hs.2.1.2).1 s.2.2 hs.2.2.1 hs.2.2.2
  · exact ((h.1 s.1 hs.1.1 hs.1.2).1 s.2.1 hs.2.1.1 hs.2.1.2).2
  · exact (h.1 s.1 hs.1.1 hs.1.2).2
  · exact h.2
/-- a table of sums: of groups of the level alone, from 0 to the greatest amount. -/
def GrT (k : Int) (G : GTab) : Prop := ∀ s x, G s = some x → lvOk k s ∧ 0 ≤ x ∧ x ≤ 1000000000000000
theorem GrT.get {k : Int} {G : GTab} (h : GrT k G) (s : GrpT) : 0 ≤ getG G s ∧ getG G s ≤ 1000000000000000 := by
  unfold getG
  cases e : G s with
  | none => simp
  | some x => have := (h s x e).2; simp only [Option.getD_some]; omega
theorem noG_gr (k : Int) : GrT k noG := fun s x h => by cases h
theorem GrT.upd {k : Int} {G : GTab} (h : GrT k G) {s : GrpT} {x : Int} (hs : lvOk k s) (h0 : 0 ≤ x) (hx : x ≤ 1000000000000000) : GrT k (updK G s x) := fun s' x' e => by
  unfold updK at e
  split at e
  · rename_i q; subst q
    obtain rfl := Option.some.inj e
    exact ⟨hs, h0, hx⟩
  · exact h _ _ e
/-- the table says what the lines' sums are at this level. -/
def LvAt (T : CTab) (l : List Ln) (k : Int) (G : GTab) : Prop := GrT k G ∧ ∀ s, lvOk k s → getG G s = lvV T l k s

/-! Gathering. -/
def gatAt (l : List Ln) (G : GTab) : Prop := GrT 3 G ∧ ∀ s, lvOk 3 s → getG G s = s1 l s.1 s.2.1 s.2.2
def lnG (x : Ln) : GrpT := (x.c, x.m, x.i)
theorem lnG_ok {x : Ln} (h : lnOk x) : lvOk 3 (lnG x) := ⟨h.1, h.2.1, h.2.2.1⟩
theorem gatAt_no : gatAt [] noG := ⟨noG_gr 3, fun s _ => rfl⟩
theorem gatAt_snoc {l : List Ln} {G : GTab} {x : Ln} (h : gatAt l G) (hx : lnOk x) (hv : getG G (lnG x) + x.v ≤ 1000000000000000) : gatAt (l ++ [x]) (updK G (lnG x) (getG G (lnG x) + x.v)) := by
  have h0 := (h.1.get (lnG x)).1
  refine ⟨h.1.upd (lnG_ok hx) (by have := hx.2.2.2.1; omega) hv, fun s hs => ?_⟩
  rw [getG_upd, s1_snoc]
  by_cases e : s = lnG x
  · subst e
    rw [if_pos rfl, h.2 _ hs]
    unfold hitL lnG
    rw [if_pos ⟨rfl, rfl, rfl⟩]
  · rw [if_neg e, h.2 s hs]
    unfold hitL
    rw [if_neg (fun q => e (by unfold lnG; obtain ⟨a, b, c⟩ := s; simp only at q; rw [q.1, q.2.1, q.2.2])), Int.add_zero]
/-- a sum that is above the greatest amount on the way is so at the end. -/
theorem gat_over {T : CTab} {l r : List Ln} {G : GTab} {x : Ln} (h : gatAt l G) (hx : lnOk x) (hr : ∀ y ∈ r, lnOk y) (hv : 1000000000000000 < getG G (lnG x) + x.v) : ¬ fits T (l ++ x :: r) := fun hf => by
  have := fits_at hf (.inl rfl) (lnG x) (lnG_ok hx)
  rw [h.2 _ (lnG_ok hx)] at hv
  have h2 := s1_nn hr (lnG x).1 (lnG x).2.1 (lnG x).2.2
  unfold lvV at this
  rw [if_pos rfl, s1_app] at this
  simp only [s1] at this
  unfold hitL at this
  rw [if_pos ⟨rfl, rfl, rfl⟩] at this
  omega

/-! Widening. -/
def outL (s : GrpT) (k : Int) : LimT := if k = 3 then (3, s.2.2) else if k = 2 then (2, s.2.1) else (1, s.1)
def outG (s : GrpT) (k : Int) : GrpT := if k = 3 then (s.1, s.2.1, 0) else if k = 2 then (s.1, 0, 0) else (0, 0, 0)
/-- the groups that come to one group, of which there are so many. -/
def fib (k : Int) (h : GrpT) (j : Nat) : GrpT := if k = 3 then (h.1, h.2.1, (j : Int)) else if k = 2 then (h.1, (j : Int) + 1, 0) else ((j : Int) + 1, 0, 0)
def fibN (k : Int) : Nat := if k = 3 then 33 else 6
def kOk (k : Int) : Prop := k = 3 ∨ k = 2 ∨ k = 1
theorem fib_ok {k : Int} (hk : kOk k) {h : GrpT} (hh : lvOk (k - 1) h) {j : Nat} (hj : j < fibN k) : lvOk k (fib k h j) ∧ outG (fib k h j) k = h := by
  obtain ⟨a, b, c⟩ := h
  rcases hk with rfl | rfl | rfl
  · obtain ⟨h1, h2, h3⟩ : (1 ≤ a ∧ a ≤ 6) ∧ (1 ≤ b ∧ b ≤ 6) ∧ c = 0 := hh
    have hj' : j < 33 := hj
    exact ⟨⟨h1, h2, by show 0 ≤ (j : Int) ∧ (j : Int) ≤ 32; omega⟩, by subst h3; rfl⟩
  · obtain ⟨h1, h2, h3⟩ : (1 ≤ a ∧ a ≤ 6) ∧ b = 0 ∧ c = 0 := hh
    have hj' : j < 6 := hj
    exact ⟨⟨h1, by show 1 ≤ (j : Int) + 1 ∧ (j : Int) + 1 ≤ 6; omega, rfl⟩, by subst h2 h3; rfl⟩
  · obtain ⟨h1, h2, h3⟩ : a = 0 ∧ b = 0 ∧ c = 0 := hh
    have hj' : j < 6 := hj
    exact ⟨⟨by show 1 ≤ (j : Int) + 1 ∧ (j : Int) + 1 ≤ 6; omega, rfl, rfl⟩, by subst h1 h2 h3; rfl⟩
theorem fib_there {k : Int} (hk : kOk k) {s : GrpT} (hs : lvOk k s) : lvOk (k - 1) (outG s k) ∧ ∃ j, j < fibN k ∧ fib k (outG s k) j = s := by
  obtain ⟨a, b, c⟩ := s
  rcases hk with rfl | rfl | rfl
  · obtain ⟨h1, h2, h3⟩ : (1 ≤ a ∧ a ≤ 6) ∧ (1 ≤ b ∧ b ≤ 6) ∧ (0 ≤ c ∧ c ≤ 32) := hs
    refine ⟨⟨h1, h2, rfl⟩, c.toNat, by show c.toNat < 33; omega, ?_⟩
    show (a, b, ((c.toNat : Nat) : Int)) = (a, b, c)
    rw [Int.toNat_of_nonneg h3.1]
  · obtain ⟨h1, h2, h3⟩ : (1 ≤ a ∧ a ≤ 6) ∧ (1 ≤ b ∧ b ≤ 6) ∧ c = 0 := hs
    refine ⟨⟨h1, rfl, rfl⟩, (b - 1).toNat, by show (b - 1).toNat < 6; omega, ?_⟩
    show (a, (((b - 1).toNat : Nat) : Int) + 1, 0) = (a, b, c)
    rw [Int.toNat_of_nonneg (by omega), h3, show b - 1 + 1 = b by omega]
  · obtain ⟨h1, h2, h3⟩ : (1 ≤ a ∧ a ≤ 6) ∧ b = 0 ∧ c = 0 := hs
    refine ⟨⟨rfl, rfl, rfl⟩, (a - 1).toNat, by show (a - 1).toNat < 6; omega, ?_⟩
    show ((((a - 1).toNat : Nat) : Int) + 1, 0, 0) = (a, b, c)
    rw [Int.toNat_of_nonneg (by omega), h2, h3, show a - 1 + 1 = a by omega]
theorem fib_inj {k : Int} {h : GrpT} {i j : Nat} (e : fib k h i = fib k h j) : i = j := by
  unfold fib at e
  split at e
  · simp only [Prod.mk.injEq, true_and] at e; omega
  · split at e
    · simp only [Prod.mk.injEq, true_and, and_true] at e; omega
    · simp only [Prod.mk.injEq, and_true] at e; omega
theorem outL_in {k : Int} (hk : kOk k) {s : GrpT} (hs : lvOk k s) : lmIn (outL s k) := by
  have := hs.bd
  rcases hk with rfl | rfl | rfl
  · show lmIn (3, s.2.2); unfold lmIn; omega
  · show lmIn (2, s.2.1); unfold lmIn; omega
  · show lmIn (1, s.1); unfold lmIn; omega
/-- what counts of one group; of those that have been gone through. -/
def cgV (T : CTab) (G : GTab) (k : Int) (s : GrpT) : Int := capN (getG G s) (getC T (outL s k))
def dnB (G : GTab) (lf : GrpT → Bool) (s : GrpT) : Bool := (G s).isSome && !lf s
def wsum (T : CTab) (G : GTab) (k : Int) (lf : GrpT → Bool) (h : GrpT) : Int := sumN (fun j => if dnB G lf (fib k h j) = true then cgV T G k (fib k h j) else 0) (fibN k)
def fsum (T : CTab) (G : GTab) (k : Int) (h : GrpT) : Int := sumN (fun j => cgV T G k (fib k h j)) (fibN k)
section
variable {T : CTab} {G : GTab} {k : Int}
theorem cgV_nn (hG : GrT k G) (s : GrpT) : 0 ≤ cgV T G k s := capN_nn _ (hG.get s).1
theorem cgV_le (hG : GrT k G) (s : GrpT) : cgV T G k s ≤ 1000000000000000 := Int.le_trans (capN_le _ _) (hG.get s).2
theorem wsum_start (h : GrpT) : wsum T G k (fun s => (G s).isSome) h = 0 := sumN_zero fun j _ => by
  unfold dnB
  simp only
  rw [if_neg (by rw [Bool.and_not_self]; decide)]
theorem wsum_le (hG : GrT k G) (lf : GrpT → Bool) (h : GrpT) : wsum T G k lf h ≤ fsum T G k h := sumN_le fun j _ => by
  split
  · exact Int.le_refl _
  · exact cgV_nn hG _
theorem wsum_nn (hG : GrT k G) (lf : GrpT → Bool) (h : GrpT) : 0 ≤ wsum T G k lf h := sumN_nn fun j _ => by
  split
  · exact cgV_nn hG _
  · exact Int.le_refl _
theorem wsum_end (hC : CaT T) (lf : GrpT → Bool) (hl : ∀ s, grIn s → lf s = false) (hk : kOk k) (h : GrpT) (hh : lvOk (k - 1) h) : wsum T G k lf h = fsum T G k h := sumN_eq fun j hj => by
  unfold dnB
  rw [hl _ (fib_ok hk hh hj).1.isIn]
  cases e : G (fib k h j) with
  | some x => rfl
  | none =>
    unfold cgV getG
    rw [e]
    exact (capN_zero (hC.get _).1).symm
/-- one more group has been gone through. -/
theorem wsum_same (hk : kOk k) {lf : GrpT → Bool} {s : GrpT} (hs : lvOk k s) (hl : lf s = true) (hG : (G s).isSome = true) :
    wsum T G k (fun z => lf z && !decide (z = s)) (outG s k) = wsum T G k lf (outG s k) + cgV T G k s := by
  obtain ⟨_, j, hj, e⟩ := fib_there hk hs
  unfold wsum
  rw [sumN_turn (f := fun j => if dnB G lf (fib k (outG s k) j) = true then cgV T G k (fib k (outG s k) j) else 0) hj]
  · simp only [e]
    unfold dnB
    simp only [hl, hG]
    simp
  · intro i hi hne
    have hn : fib k (outG s k) i ≠ s := fun q => hne (fib_inj (q.trans e.symm))
    unfold dnB
    simp only [decide_eq_false hn]
    simp
theorem wsum_other (hk : kOk k) {lf : GrpT → Bool} {s h : GrpT} (hh : lvOk (k - 1) h) (hne : h ≠ outG s k) : wsum T G k (fun z => lf z && !decide (z = s)) h = wsum T G k lf h := sumN_eq fun j hj => by
  have hn : fib k h j ≠ s := fun q => hne (by rw [← q, (fib_ok hk hh hj).2])
  unfold dnB
  simp only [decide_eq_false hn]
  simp
/-- what one level's sums come to is the next level. -/
theorem fsum_lv {l : List Ln} (hk : kOk k) (hG : LvAt T l k G) (h : GrpT) (hh : lvOk (k - 1) h) : fsum T G k h = lvV T l (k - 1) h := by
  have e : fsum T G k h = sumN (fun j => capN (lvV T l k (fib k h j)) (getC T (outL (fib k h j) k))) (fibN k) := sumN_eq fun j hj => by
    unfold cgV
    rw [hG.2 _ (fib_ok hk hh hj).1]
  rw [e]
  rcases hk with rfl | rfl | rfl <;> rfl
end
/-- the table behind so many groups. -/
def WidAt (T : CTab) (G : GTab) (k : Int) (lf : GrpT → Bool) (H : GTab) : Prop := GrT (k - 1) H ∧ ∀ h, lvOk (k - 1) h → getG H h = wsum T G k lf h
theorem widAt_no (T : CTab) (G : GTab) (k : Int) : WidAt T G k (fun s => (G s).isSome) noG := ⟨noG_gr _, fun h _ => (wsum_start h).symm⟩
theorem widAt_step {T : CTab} {G H : GTab} {k : Int} {lf : GrpT → Bool} {s : GrpT} (hk : kOk k) (hG : GrT k G) (h : WidAt T G k lf H) (hs : lvOk k s) (hl : lf s = true) (hGs : (G s).isSome = true) (hv : getG H (outG s k) + cgV T G k s ≤ 1000000000000000) :
    WidAt T G k (fun z => lf z && !decide (z = s)) (updK H (outG s k) (getG H (outG s k) + cgV T G k s)) := by
  have ho := (fib_there hk hs).1
  refine ⟨h.1.upd ho (by have := (h.1.get (outG s k)).1; have := cgV_nn (T := T) hG s; omega) hv, fun z hz => ?_⟩
  rw [getG_upd]
  by_cases e : z = outG s k
  · subst e
    rw [if_pos rfl, wsum_same hk hs hl hGs, h.2 _ ho]
  · rw [if_neg e, wsum_other hk hz e, h.2 z hz]
theorem wid_over {T : CTab} {l : List Ln} {G H : GTab} {k : Int} {lf : GrpT → Bool} {s : GrpT} (hk : kOk k) (hG : LvAt T l k G) (h : WidAt T G k lf H) (hs : lvOk k s) (hl : lf s = true) (hGs : (G s).isSome = true) (hv : 1000000000000000 < getG H (outG s k) + cgV T G k s) : ¬ fits T l := fun hf => by
  have ho := (fib_there hk hs).1
  have h1 := fits_at hf (k := k - 1) (by rcases hk with rfl | rfl | rfl <;> simp) _ ho
  rw [← fsum_lv hk hG _ ho] at h1
  have h2 := wsum_le (T := T) hG.1 (fun z => lf z && !decide (z = s)) (outG s k)
  rw [wsum_same hk hs hl hGs, ← h.2 _ ho] at h2
  omega
theorem wid_end {T : CTab} {l : List Ln} {G H : GTab} {k : Int} {lf : GrpT → Bool} (hk : kOk k) (hC : CaT T) (hG : LvAt T l k G) (h : WidAt T G k lf H) (hl : ∀ s, grIn s → lf s = false) : LvAt T l (k - 1) H :=
  ⟨h.1, fun s hs => by rw [h.2 s hs, wsum_end hC lf hl hk s hs, fsum_lv hk hG s hs]⟩
theorem LvAt.fit {T : CTab} {l : List Ln} {k : Int} {G : GTab} (h : LvAt T l k G) : fitK T l k := fun s hs => by rw [← h.2 s hs]; exact (h.1.get s).2
end Go.Proofs.YtghkmagofadkfaaDoor
