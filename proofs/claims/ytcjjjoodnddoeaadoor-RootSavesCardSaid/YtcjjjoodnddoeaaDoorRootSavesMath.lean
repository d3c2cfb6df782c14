/-
  Roots saved one behind the other, the last one's power gone: what is on the disk, what is loaded.
-/
import Derived.Test.YtcjjjoodnddoeaaDoorRootGreaterWalk
namespace Go.Proofs.YtcjjjoodnddoeaaDoor
open Go.RowKit
set_option linter.unusedVariables false

/-- the list that the statement saves in the i-th place. -/
def lst (l : List Int) (i : Nat) : List Int := if i < l.length then [l.getD i 0 % 8000, (i : Int)] else [(i : Int), 7, 8]
theorem lst_ok (l : List Int) {i : Nat} (h1 : 1 ≤ i) (h2 : i ≤ 100) : RtOk (i : Int) (lst l i) := by
  refine ⟨by omega, by omega, fun x hx => ?_, ?_⟩
  · unfold lst at hx
    split at hx
    · simp only [List.mem_cons, List.not_mem_nil, or_false] at hx
      rcases hx with rfl | rfl <;> omega
    · simp only [List.mem_cons, List.not_mem_nil, or_false] at hx
      rcases hx with rfl | rfl | rfl <;> omega
  · unfold lst
    split <;> simp
def cont (l : List Int) (k : Nat) : List Int := if k = 0 then zs128 else rtB k (lst l k)
theorem cont_root (l : List Int) {k : Nat} (h : k ≤ 100) : rootOf (cont l k) = if k = 0 then none else some ((k : Int), lst l k) := by
  unfold cont
  split
  · exact rootOf_zs
  · exact rootOf_rtB (lst_ok l (by omega) h)
/-- behind the k-th. -/
structure SvD (l : List Int) (k : Nat) (D : Dk) : Prop where
  n : D.n = 6
  calm : D.Calm
  ps : D.ps = []
  s0 : D.see (k % 2) = cont l k
  s1 : D.see ((k + 1) % 2) = cont l (k - 1)
theorem svD_new (l : List Int) : SvD l 0 (newDk 6) := ⟨rfl, calm_new 6, rfl, rfl, rfl⟩
theorem svD_next {l : List Int} {k : Nat} {D : Dk} (h : SvD l k D) : SvD l (k + 1) (savD D ((k + 1 : Nat) : Int) (lst l (k + 1))) := by
  refine ⟨h.n, savD_calm h.calm _ _, rfl, ?_, ?_⟩
  · rw [savD_see, if_pos (by omega), cont, if_neg (by omega)]
  · rw [savD_see, if_neg (by omega), show (k + 1 + 1) % 2 = k % 2 by omega]
    exact h.s0
theorem svD_load {l : List Int} {k : Nat} {D : Dk} (h : SvD l (k + 1) D) (hk : k ≤ 90) : loadOf D = some (((k + 1 : Nat) : Int), lst l (k + 1)) := by
  have a := h.s0
  have b := h.s1
  have ra := cont_root l (k := k + 1) (by omega)
  have rb := cont_root l (k := k) (by omega)
  rw [if_neg (by omega)] at ra
  rw [show k + 1 - 1 = k by omega] at b
  rcases Nat.mod_two_eq_zero_or_one k with e | e
  · rw [show (k + 1) % 2 = 1 by omega] at a
    rw [show (k + 1 + 1) % 2 = 0 by omega] at b
    rw [load_two (by rw [b, rb]) (by rw [a, ra])]
    split
    · rfl
    · simp only [pick2]
      rw [if_pos (by omega)]
  · rw [show (k + 1) % 2 = 0 by omega] at a
    rw [show (k + 1 + 1) % 2 = 1 by omega] at b
    rw [load_two (by rw [a, ra]) (by rw [b, rb])]
    split
    · rfl
    · simp only [pick2]
      rw [if_neg (by omega)]

/-! Armed. -/
theorem crash_calm (D : Dk) (picks : List Int) : (D.crash picks).Calm := calm_crash D picks
/-- what a Save leaves that is armed for its first call, its second, the one behind. -/
theorem armed1 {D : Dk} (hc : D.Calm) (hn : 2 ≤ D.n) {e : Int} {xs : List Int} (hr : RtOk e xs) : svC (D.arm 1) e xs = 109 ∧ (svD (D.arm 1) e xs).ps = D.ps ∧ (svD (D.arm 1) e xs).n = D.n ∧ (svD (D.arm 1) e xs).fl = D.fl := by
  have h0 := rtC_ok.2 hr
  have hp : (D.arm 1).power.down = true := by simp [Dk.power, Dk.arm]
  have hw : wrC (D.arm 1) (e % 2) 128 = 109 := by simp [wrC, hp]
  have hd : wrD (D.arm 1) (e % 2) (rtB e xs) = (D.arm 1).power := by rw [wrD, (rtB_ok hr).1, hw, if_neg (by decide)]
  refine ⟨?_, ?_⟩
  · rw [svC, if_neg (by simp [h0]), if_pos (by simp [hw]), hw]
  · rw [svD, if_neg (by simp [h0]), if_pos (by simp [hw]), hd]
    simp [Dk.power, Dk.arm]
theorem armed2 {D : Dk} (hc : D.Calm) (hn : 2 ≤ D.n) (hps : D.ps = []) {e : Int} {xs : List Int} (hr : RtOk e xs) : svC (D.arm 2) e xs = 109 ∧ (svD (D.arm 2) e xs).ps = [(e % 2, rtB e xs)] ∧ (svD (D.arm 2) e xs).n = D.n ∧ (svD (D.arm 2) e xs).fl = D.fl := by
  have h0 := rtC_ok.2 hr
  have hm : 0 ≤ e % 2 ∧ e % 2 < D.n := by omega
  have hp : (D.arm 2).power = { D with armed := 1, down := false } := by simp [Dk.power, Dk.arm, hc.down]
  have hw : wrC (D.arm 2) (e % 2) 128 = 0 := by
    rw [wrC, hp]
    simp only [Bool.false_eq_true, if_false]
    rw [if_pos (show 0 ≤ e % 2 ∧ e % 2 < ((D.arm 2).n : Int) from hm)]
    simp
  have hd : wrD (D.arm 2) (e % 2) (rtB e xs) = ({ D with armed := 1, down := false } : Dk).write (e % 2) (rtB e xs) := by rw [wrD, (rtB_ok hr).1, hw, if_pos rfl, hp]
  have hp2 : (({ D with armed := 1, down := false } : Dk).write (e % 2) (rtB e xs)).power.down = true := by simp [Dk.power, Dk.write]
  refine ⟨?_, ?_⟩
  · rw [svC, if_neg (by simp [h0]), if_neg (by simp [hw]), hd, flC, if_pos hp2]
  · rw [svD, if_neg (by simp [h0]), if_neg (by simp [hw]), hd, flD, if_pos hp2]
    simp [Dk.power, Dk.write, hps, putP_nil]
theorem armed3 {D : Dk} (hc : D.Calm) (hn : 2 ≤ D.n) (hps : D.ps = []) {e : Int} {xs : List Int} (hr : RtOk e xs) : svC (D.arm 3) e xs = 0 ∧ (svD (D.arm 3) e xs).ps = [] ∧ (svD (D.arm 3) e xs).n = D.n ∧ ∀ j : Nat, (svD (D.arm 3) e xs).see j = if e % 2 = (j : Int) then rtB e xs else D.see j := by
  have h0 := rtC_ok.2 hr
  have hm : 0 ≤ e % 2 ∧ e % 2 < D.n := by omega
  have hp : (D.arm 3).power = { D with armed := 2, down := false } := by simp [Dk.power, Dk.arm, hc.down]
  have hw : wrC (D.arm 3) (e % 2) 128 = 0 := by
    rw [wrC, hp]
    simp only [Bool.false_eq_true, if_false]
    rw [if_pos (show 0 ≤ e % 2 ∧ e % 2 < ((D.arm 3).n : Int) from hm)]
    simp
  have hd : wrD (D.arm 3) (e % 2) (rtB e xs) = ({ D with armed := 2, down := false } : Dk).write (e % 2) (rtB e xs) := by rw [wrD, (rtB_ok hr).1, hw, if_pos rfl, hp]
  have hp2 : (({ D with armed := 2, down := false } : Dk).write (e % 2) (rtB e xs)).power.down = false := by simp [Dk.power, Dk.write]
  refine ⟨?_, ?_⟩
  · rw [svC, if_neg (by simp [h0]), if_neg (by simp [hw]), hd, flC, if_neg (by simp [hp2])]
  · rw [svD, if_neg (by simp [h0]), if_neg (by simp [hw]), hd, flD, if_neg (by simp [hp2])]
    refine ⟨rfl, ?_, fun j => ?_⟩
    · simp [Dk.power, Dk.write, Dk.flush]
    · rw [see_flush]
      have : ∀ j, (({ D with armed := 2, down := false } : Dk).write (e % 2) (rtB e xs)).power.see j = (D.write (e % 2) (rtB e xs)).see j := fun j => by simp [Dk.power, Dk.write, Dk.see]
      rw [this, see_write]
/-- behind the fall: one sector is torn, or as it was. -/
structure Fell (l : List Int) (k : Nat) (r : Nat) (D : Dk) : Prop where
  n : D.n = 6
  calm : D.Calm
  ps : D.ps = []
  s0 : D.see (k % 2) = cont l k
  s1 : D.see ((k + 1) % 2) = cont l (k - 1) ∨ D.see ((k + 1) % 2) = torn r (rtB ((k + 1 : Nat) : Int) (lst l (k + 1))) (cont l (k - 1))
theorem see_fl {D : Dk} (h : D.ps = []) (j : Nat) : D.see j = D.fl j := by simp [Dk.see, h, pget_nil]
theorem fell1 {l : List Int} {k : Nat} {D : Dk} (h : SvD l k D) (hk : k ≤ 90) (picks : List Int) : svC (D.arm 1) ((k + 1 : Nat) : Int) (lst l (k + 1)) = 109 ∧ Fell l k (rch (picks.getD 0 0)) ((svD (D.arm 1) ((k + 1 : Nat) : Int) (lst l (k + 1))).crash picks) := by
  obtain ⟨h1, h2, h3, h4⟩ := armed1 h.calm (by rw [h.n]; decide) (lst_ok l (i := k + 1) (by omega) (by omega))
  rw [h.ps] at h2
  have hs : ∀ j, ((svD (D.arm 1) ((k + 1 : Nat) : Int) (lst l (k + 1))).crash picks).see j = D.see j := fun j => by
    rw [see_crash0 h2, see_fl h2, see_fl h.ps, h4]
  exact ⟨h1, h3.trans h.n, crash_calm _ _, rfl, (hs _).trans h.s0, .inl ((hs _).trans h.s1)⟩
theorem fell2 {l : List Int} {k : Nat} {D : Dk} (h : SvD l k D) (hk : k ≤ 90) (picks : List Int) : svC (D.arm 2) ((k + 1 : Nat) : Int) (lst l (k + 1)) = 109 ∧ Fell l k (rch (picks.getD 0 0)) ((svD (D.arm 2) ((k + 1 : Nat) : Int) (lst l (k + 1))).crash picks) := by
  obtain ⟨h1, h2, h3, h4⟩ := armed2 h.calm (by rw [h.n]; decide) h.ps (lst_ok l (i := k + 1) (by omega) (by omega))
  have h2' : (svD (D.arm 2) ((k + 1 : Nat) : Int) (lst l (k + 1))).ps = [((((k + 1) % 2 : Nat) : Int), rtB ((k + 1 : Nat) : Int) (lst l (k + 1)))] := by rw [h2]; congr 2
  have s0 := h.s0
  have s1 := h.s1
  rw [see_fl h.ps] at s0 s1
  refine ⟨h1, h3.trans h.n, crash_calm _ _, rfl, ?_, .inr ?_⟩
  · rw [see_crash1 h2', if_neg (by omega), h4, s0]
  · rw [see_crash1 h2', if_pos rfl, h4, s1, mix_torn]
/-- what is read of the torn sector. -/
theorem tornC {l : List Int} {k : Nat} {xs : List Int} {r : Nat} (hk : k ≤ 90) (hx : RtOk ((k + 1 : Nat) : Int) xs) : rootOf (torn r (rtB ((k + 1 : Nat) : Int) xs) (cont l (k - 1))) = none ∨ (2 ≤ k ∧ rootOf (torn r (rtB ((k + 1 : Nat) : Int) xs) (cont l (k - 1))) = some (((k - 1 : Nat) : Int), lst l (k - 1))) ∨ rootOf (torn r (rtB ((k + 1 : Nat) : Int) xs) (cont l (k - 1))) = some (((k + 1 : Nat) : Int), xs) := by
  cases h : rootOf (torn r (rtB ((k + 1 : Nat) : Int) xs) (cont l (k - 1))) with
  | none => exact .inl rfl
  | some p =>
    obtain ⟨e, zs⟩ := p
    by_cases hk2 : 2 ≤ k
    · rw [cont, if_neg (by omega)] at h
      rcases torn_root (lst_ok l (i := k - 1) (by omega) (by omega)) hx (by omega) h with ⟨_, rfl, rfl⟩ | ⟨_, rfl, rfl⟩
      · exact .inr (.inl ⟨hk2, rfl⟩)
      · exact .inr (.inr rfl)
    · rw [cont, if_pos (by omega)] at h
      obtain ⟨_, rfl, rfl⟩ := torn_zs hx h
      exact .inr (.inr rfl)
/-- the greater of a sector and the one beside it. -/
theorem load_beside {D : Dk} {k : Nat} {p q : Option (Int × List Int)} (hp : rootOf (D.see (k % 2)) = p) (hq : rootOf (D.see ((k + 1) % 2)) = q) (hne : ∀ x y, p = some x → q = some y → x.1 ≠ y.1) : loadOf D = pick2 p q := by
  rcases Nat.mod_two_eq_zero_or_one k with e | e
  · rw [e] at hp
    rw [show (k + 1) % 2 = 1 by omega] at hq
    exact load_two hp hq
  · rw [e] at hp
    rw [show (k + 1) % 2 = 0 by omega] at hq
    rw [load_two hq hp]
    cases p with
    | none => cases q <;> rfl
    | some x =>
      cases q with
      | none => rfl
      | some y =>
        have := hne x y rfl rfl
        simp only [pick2]
        by_cases h : x.1 < y.1
        · rw [if_pos h, if_neg (by omega)]
        · rw [if_neg h, if_pos (by omega)]
theorem fell_load {l : List Int} {k r : Nat} {D : Dk} (h : Fell l k r D) (hk : k ≤ 90) : (loadOf D = some (((k + 1 : Nat) : Int), lst l (k + 1)) ∧ rootOf (D.see ((k + 1) % 2)) = some (((k + 1 : Nat) : Int), lst l (k + 1))) ∨ (1 ≤ k ∧ loadOf D = some ((k : Int), lst l k)) ∨ (k = 0 ∧ loadOf D = none) := by
  have h0 : rootOf (D.see (k % 2)) = if k = 0 then none else some ((k : Int), lst l k) := by rw [h.s0]; exact cont_root l (by omega)
  have h1 : rootOf (D.see ((k + 1) % 2)) = none ∨ (2 ≤ k ∧ rootOf (D.see ((k + 1) % 2)) = some (((k - 1 : Nat) : Int), lst l (k - 1))) ∨ rootOf (D.see ((k + 1) % 2)) = some (((k + 1 : Nat) : Int), lst l (k + 1)) := by
    rcases h.s1 with e | e
    · rw [e, cont_root l (by omega)]
      by_cases hk2 : 2 ≤ k
      · rw [if_neg (by omega)]; exact .inr (.inl ⟨hk2, rfl⟩)
      · rw [if_pos (by omega)]; exact .inl rfl
    · rw [e]; exact tornC hk (lst_ok l (i := k + 1) (by omega) (by omega))
  rcases h1 with h1 | ⟨hk2, h1⟩ | h1
  · by_cases hk0 : k = 0
    · rw [if_pos hk0] at h0
      exact .inr (.inr ⟨hk0, load_beside h0 h1 (fun x y hx => by cases hx)⟩)
    · rw [if_neg hk0] at h0
      exact .inr (.inl ⟨by omega, load_beside h0 h1 (fun x y _ hy => by cases hy)⟩)
  · rw [if_neg (by omega)] at h0
    refine .inr (.inl ⟨by omega, ?_⟩)
    rw [load_beside h0 h1 (fun x y hx hy => by cases hx; cases hy; show (k : Int) ≠ ((k - 1 : Nat) : Int); omega)]
    simp only [pick2]
    rw [if_neg (by omega)]
  · refine .inl ⟨?_, h1⟩
    by_cases hk0 : k = 0
    · rw [if_pos hk0] at h0
      exact load_beside h0 h1 (fun x y hx => by cases hx)
    · rw [if_neg hk0] at h0
      rw [load_beside h0 h1 (fun x y hx hy => by cases hx; cases hy; show (k : Int) ≠ ((k + 1 : Nat) : Int); omega)]
      simp only [pick2]
      rw [if_pos (by omega)]
/-- torn once more. -/
def l123 : List Int := [1, 2, 3]
theorem l123_ok {e : Nat} (h1 : 1 ≤ e) (h2 : e ≤ 100) : RtOk (e : Int) l123 := ⟨by omega, by omega, by decide, by decide⟩
theorem again_see {D : Dk} (hc : D.Calm) (hn : D.n = 6) (hps : D.ps = []) {e : Nat} {xs : List Int} (hr : RtOk (e : Int) xs) (picks : List Int) (j : Nat) :
    ((svD (D.arm 2) (e : Int) xs).crash picks).see j = if j = e % 2 then torn (rch (picks.getD 0 0)) (rtB e xs) (D.see j) else D.see j := by
  obtain ⟨_, h2, _, h4⟩ := armed2 hc (by rw [hn]; decide) hps hr
  have h2' : (svD (D.arm 2) (e : Int) xs).ps = [(((e % 2 : Nat) : Int), rtB e xs)] := by rw [h2]; congr 2
  rw [see_crash1 h2', h4, see_fl hps]
  split
  · rename_i h; rw [h]; rfl
  · rfl
theorem again_calm (D : Dk) (e : Int) (xs picks : List Int) : ((svD D e xs).crash picks).Calm := calm_crash _ _
theorem again_load {l : List Int} {k : Nat} {D : Dk} {picks : List Int} (h : Fell l k (rch (picks.getD 0 0)) D) (hk : k ≤ 80) (E : Nat) (L : Option (Int × List Int)) (hL : loadOf D = L) (hE : (E = k + 1 ∧ L = some (((k + 1 : Nat) : Int), lst l (k + 1)) ∧ rootOf (D.see ((k + 1) % 2)) = L) ∨ (1 ≤ k ∧ E = k ∧ L = some ((k : Int), lst l k)) ∨ (k = 0 ∧ E = 0 ∧ L = none)) :
    loadOf ((svD (D.arm 2) ((E + 1 : Nat) : Int) l123).crash picks) = some (((E + 1 : Nat) : Int), l123) ∨ loadOf ((svD (D.arm 2) ((E + 1 : Nat) : Int) l123).crash picks) = L := by
  have hs := again_see h.calm h.n h.ps (l123_ok (e := E + 1) (by omega) (by omega)) picks
  rcases hE with ⟨rfl, rfl, hX⟩ | ⟨hk1, rfl, rfl⟩ | ⟨rfl, rfl, rfl⟩
  · have q := hs ((k + 1) % 2)
    rw [if_neg (by omega)] at q
    have p := hs ((k + 2) % 2)
    rw [if_pos (by omega), show (k + 2) % 2 = k % 2 by omega, h.s0] at p
    have hp := tornC (l := l) (k := k + 1) (xs := l123) (r := rch (picks.getD 0 0)) (by omega) (l123_ok (e := k + 1 + 1) (by omega) (by omega))
    rw [show k + 1 - 1 = k by omega, ← p] at hp
    have hq : rootOf (((svD (D.arm 2) ((k + 1 + 1 : Nat) : Int) l123).crash picks).see ((k + 1) % 2)) = some (((k + 1 : Nat) : Int), lst l (k + 1)) := by rw [q, hX]
    rcases hp with hp | ⟨hk2, hp⟩ | hp
    · right
      rw [load_beside hp hq (fun x y hx => by cases hx)]
      rfl
    · right
      rw [load_beside hp hq (fun x y hx hy => by cases hx; cases hy; show (k : Int) ≠ ((k + 1 : Nat) : Int); omega)]
      simp only [pick2]
      rw [if_pos (by omega)]
    · left
      rw [load_beside hp hq (fun x y hx hy => by cases hx; cases hy; show ((k + 1 + 1 : Nat) : Int) ≠ ((k + 1 : Nat) : Int); omega)]
      simp only [pick2]
      rw [if_neg (by omega)]
  · have q := hs (E % 2)
    rw [if_neg (by omega), h.s0] at q
    have p := hs ((E + 1) % 2)
    rw [if_pos rfl] at p
    have p' : ((svD (D.arm 2) ((E + 1 : Nat) : Int) l123).crash picks).see ((E + 1) % 2) = torn (rch (picks.getD 0 0)) (rtB ((E + 1 : Nat) : Int) l123) (cont l (E - 1)) := by
      rw [p]
      rcases h.s1 with e | e
      · rw [e]
      · rw [e, torn_torn _ _ _ _ (by rw [(rtB_ok (lst_ok l (i := E + 1) (by omega) (by omega))).1]; exact rch_le _)]
    have hp := tornC (l := l) (k := E) (xs := l123) (r := rch (picks.getD 0 0)) (by omega) (l123_ok (e := E + 1) (by omega) (by omega))
    rw [← p'] at hp
    have hq : rootOf (((svD (D.arm 2) ((E + 1 : Nat) : Int) l123).crash picks).see (E % 2)) = some ((E : Int), lst l E) := by rw [q, cont_root l (by omega), if_neg (by omega)]
    rcases hp with hp | ⟨hk2, hp⟩ | hp
    · right
      rw [load_beside hq hp (fun x y _ hy => by cases hy)]
      rfl
    · right
      rw [load_beside hq hp (fun x y hx hy => by cases hx; cases hy; show (E : Int) ≠ ((E - 1 : Nat) : Int); omega)]
      simp only [pick2]
      rw [if_neg (by omega)]
    · left
      rw [load_beside hq hp (fun x y hx hy => by cases hx; cases hy; show (E : Int) ≠ ((E + 1 : Nat) : Int); omega)]
      simp only [pick2]
      rw [if_pos (by omega)]
  · have q := hs 0
    rw [if_neg (by omega), show D.see 0 = zs128 from h.s0] at q
    have p := hs 1
    rw [if_pos (by omega)] at p
    have p' : ((svD (D.arm 2) ((0 + 1 : Nat) : Int) l123).crash picks).see 1 = torn (rch (picks.getD 0 0)) (rtB ((0 + 1 : Nat) : Int) l123) (cont l (0 - 1)) := by
      rw [p]
      rcases h.s1 with e | e
      · rw [show D.see 1 = cont l (0 - 1) from e]
      · rw [show D.see 1 = torn (rch (picks.getD 0 0)) (rtB ((0 + 1 : Nat) : Int) (lst l (0 + 1))) (cont l (0 - 1)) from e, torn_torn _ _ _ _ (by rw [(rtB_ok (lst_ok l (i := 0 + 1) (by omega) (by omega))).1]; exact rch_le _)]
    have hp := tornC (l := l) (k := 0) (xs := l123) (r := rch (picks.getD 0 0)) (by omega) (l123_ok (e := 0 + 1) (by omega) (by omega))
    rw [← p'] at hp
    have hq : rootOf (((svD (D.arm 2) ((0 + 1 : Nat) : Int) l123).crash picks).see 0) = none := by rw [q]; exact rootOf_zs
    rcases hp with hp | ⟨hk2, hp⟩ | hp
    · right
      rw [load_two hq hp]; rfl
    · omega
    · left
      rw [load_two hq hp]; rfl
end Go.Proofs.YtcjjjoodnddoeaaDoor
