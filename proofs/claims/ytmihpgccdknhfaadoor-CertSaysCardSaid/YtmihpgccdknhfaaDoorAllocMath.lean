import Derived.Test.YtmihpgccdknhfaaDoorBoundMath

/-
  Alloc: what a choice of units comes to; what is to be paid at least to go on from it; why nothing cheaper is passed over.
-/
namespace Go.Proofs.YtmihpgccdknhfaaDoor
open Go Go.RowKit
set_option linter.unusedVariables false

/-- what a choice of some lots has come to: its cost, what is left, the room of each group. -/
structure Sg where
  c : Int
  l : Int
  r : List Int
def rmS (s : Sg) (x : Lt) : Int := s.r.getD x.g.toNat 0
def gnS (s : Sg) (x : Lt) (k : Int) : Int := min (k * x.v) (rmS s x)
/-- k units of x more. -/
def wiS (s : Sg) (x : Lt) (k : Int) : Sg := ⟨s.c + k * x.c, s.l - gnS s x k, s.r.set x.g.toNat (rmS s x - gnS s x k)⟩
/-- how many units are of use. -/
def usS (s : Sg) (x : Lt) : Int := min ((min s.l (rmS s x) + x.v - 1) / x.v) x.u
def lgS (s : Sg) (x : Lt) : Int := min (min (x.u * x.v) (rmS s x)) s.l
def lnS (s : Sg) (x : Lt) : Sg := ⟨s.c + divq (lgS s x) x.c x.v (decide (lgS s x = s.l)), s.l - lgS s x, s.r.set x.g.toNat (rmS s x - lgS s x)⟩
/-- what it comes to at least. -/
def leS : Sg → List Lt → Sg
  | s, [] => s
  | s, x :: M => if s.l ≤ 0 then s else leS (lnS s x) M
/-- what it comes to with t of the lots. -/
def fnS : Sg → List Lt → (Nat → Int) → Sg
  | s, [], _ => s
  | s, x :: M, t => fnS (wiS s x (t 0)) M (fun i => t (i + 1))
def okS (s : Sg) : Prop := s.r.length = 8 ∧ ∀ g, g < 8 → 0 ≤ s.r.getD g 0
/-- a lot that adds anything. -/
def goL (x : Lt) : Prop := 0 < x.v ∧ 0 < x.u ∧ 0 ≤ x.c ∧ 0 ≤ x.g ∧ x.g < 8
def TkM (M : List Lt) (t : Nat → Int) : Prop := ∀ i, i < M.length → 0 ≤ t i ∧ t i ≤ (M.getD i ltZ).u
/-- no choice that goes on from s costs less than K. -/
def NoB (s : Sg) (M : List Lt) (K : Int) : Prop := ∀ t, TkM M t → (fnS s M t).l ≤ 0 → K ≤ (fnS s M t).c
def mbC (s : Sg) (M : List Lt) (K : Int) : Bool := decide ((leS s M).l ≤ 0) && decide ((leS s M).c < K)
theorem tkM_cons {x : Lt} {M : List Lt} {t : Nat → Int} (h : TkM (x :: M) t) : (0 ≤ t 0 ∧ t 0 ≤ x.u) ∧ TkM M (fun i => t (i + 1)) :=
  ⟨h 0 (by simp), fun i hi => h (i + 1) (by simpa using hi)⟩
theorem rm_ok {s : Sg} (h : okS s) {x : Lt} (hx : goL x) : 0 ≤ rmS s x := h.2 _ (by have := hx.2.2.2; omega)
theorem gn_bd {s : Sg} (h : okS s) {x : Lt} (hx : goL x) {k : Int} (hk : 0 ≤ k) : 0 ≤ gnS s x k ∧ gnS s x k ≤ k * x.v ∧ gnS s x k ≤ rmS s x := by
  have h1 := rm_ok h hx
  have h2 := Int.mul_nonneg hk (Int.le_of_lt hx.1)
  unfold gnS
  omega
theorem set_ok {s : Sg} (h : okS s) {x : Lt} (hx : goL x) {a c l : Int} (ha : 0 ≤ a) : okS ⟨c, l, s.r.set x.g.toNat a⟩ := by
  refine ⟨by rw [List.length_set]; exact h.1, fun g hg => ?_⟩
  have := hx.2.2.2
  show 0 ≤ (s.r.set x.g.toNat a).getD g 0
  rw [set_at _ _ _ _ (by rw [h.1]; omega)]
  split
  · exact ha
  · exact h.2 g hg
theorem wi_ok {s : Sg} (h : okS s) {x : Lt} (hx : goL x) {k : Int} (hk : 0 ≤ k) : okS (wiS s x k) := set_ok h hx (by have := gn_bd h hx hk; omega)
theorem lg_bd {s : Sg} (h : okS s) {x : Lt} (hx : goL x) (hl : 0 ≤ s.l) : 0 ≤ lgS s x ∧ lgS s x ≤ x.u * x.v ∧ lgS s x ≤ rmS s x ∧ lgS s x ≤ s.l := by
  have h1 := rm_ok h hx
  have h2 := Int.mul_nonneg (Int.le_of_lt hx.2.1) (Int.le_of_lt hx.1)
  unfold lgS
  omega
theorem ln_ok {s : Sg} (h : okS s) {x : Lt} (hx : goL x) (hl : 0 ≤ s.l) : okS (lnS s x) := set_ok h hx (by have := lg_bd h hx hl; omega)
theorem le_done {s : Sg} (M : List Lt) (h : s.l ≤ 0) : leS s M = s := by
  cases M with
  | nil => rfl
  | cons x M => rw [leS, if_pos h]
/-- how much room there is more. -/
def dlS (z s : Sg) : Int := sumF (fun g => z.r.getD g 0 - s.r.getD g 0) 8
theorem sumF_nn {f : Nat → Int} : ∀ {k : Nat}, (∀ i, i < k → 0 ≤ f i) → 0 ≤ sumF f k
  | 0, _ => Int.le_refl _
  | k + 1, h => by
    have ih := sumF_nn (k := k) (fun i hi => h i (by omega))
    have := h k (by omega)
    show 0 ≤ sumF f k + f k
    omega
theorem dl_set {z s : Sg} {i : Nat} (hz : z.r.length = 8) (hs : s.r.length = 8) (hi : i < 8) (a b c l c' l' : Int) :
    dlS ⟨c, l, z.r.set i (z.r.getD i 0 - a)⟩ ⟨c', l', s.r.set i (s.r.getD i 0 - b)⟩ = dlS z s + (b - a) := by
  unfold dlS
  rw [sumF_one (f := fun g => z.r.getD g 0 - s.r.getD g 0) (i := i) hi (fun j hj hn => by
    show _ = (z.r.set i _).getD j 0 - (s.r.set i _).getD j 0
    rw [set_at _ _ _ _ (by omega), set_at _ _ _ _ (by omega), if_neg hn, if_neg hn])]
  show _ + ((z.r.set i _).getD i 0 - (s.r.set i _).getD i 0 - _) = _
  rw [set_at _ _ _ _ (by omega), set_at _ _ _ _ (by omega), if_pos rfl, if_pos rfl]
  omega
section
variable {D : Int} {ρ : Lt → Int}
/-- what was gained costs at least the cheapest rate. -/
theorem fn_rate (hD : 0 < D) : ∀ (M : List Lt) (z : Sg) (t : Nat → Int) (ρ0 : Int), okS z → (∀ x ∈ M, goL x ∧ ρ x * x.v = x.c * D ∧ ρ0 ≤ ρ x) → 0 ≤ ρ0 → TkM M t → ρ0 * (z.l - (fnS z M t).l) ≤ D * ((fnS z M t).c - z.c)
  | [], z, t, ρ0, _, _, _, _ => by
    show ρ0 * (z.l - z.l) ≤ D * (z.c - z.c)
    rw [Int.sub_self, Int.sub_self, Int.mul_zero, Int.mul_zero]
    exact Int.le_refl _
  | x :: M, z, t, ρ0, hz, hM, h0, ht => by
    obtain ⟨⟨k0, k1⟩, ht'⟩ := tkM_cons ht
    obtain ⟨hx, hr, hle⟩ := hM x List.mem_cons_self
    have ih := fn_rate hD M (wiS z x (t 0)) (fun i => t (i + 1)) ρ0 (wi_ok hz hx k0) (fun y hy => hM y (List.mem_cons_of_mem _ hy)) h0 ht'
    have hg := gn_bd hz hx k0
    show ρ0 * (z.l - (fnS (wiS z x (t 0)) M (fun i => t (i + 1))).l) ≤ D * ((fnS (wiS z x (t 0)) M (fun i => t (i + 1))).c - z.c)
    generalize fnS (wiS z x (t 0)) M (fun i => t (i + 1)) = e at *
    have e1 : (wiS z x (t 0)).l = z.l - gnS z x (t 0) := rfl
    have e2 : (wiS z x (t 0)).c = z.c + t 0 * x.c := rfl
    rw [e1, e2] at ih
    generalize gnS z x (t 0) = y at *
    generalize t 0 = k at *
    have a1 : ρ0 * y ≤ ρ0 * (k * x.v) := Int.mul_le_mul_of_nonneg_left hg.2.1 h0
    have a2 : ρ0 * (k * x.v) ≤ ρ x * (k * x.v) := Int.mul_le_mul_of_nonneg_right hle (Int.mul_nonneg k0 (Int.le_of_lt hx.1))
    have a3 : ρ x * (k * x.v) = D * (k * x.c) := by
      rw [show ρ x * (k * x.v) = k * (ρ x * x.v) by grind, hr]; grind
    have a4 : ρ0 * (z.l - e.l) = ρ0 * (z.l - y - e.l) + ρ0 * y := by grind
    have a5 : D * (e.c - z.c) = D * (e.c - (z.c + k * x.c)) + D * (k * x.c) := by grind
    omega
/-- what is paid at least: from s on, no more than whatever goes on from a choice that has left more room. -/
theorem bnd (hD : 0 < D) : ∀ (M : List Lt) (s z : Sg) (t : Nat → Int) (ρ0 K : Int), (∀ x ∈ M, goL x ∧ ρ x * x.v = x.c * D ∧ ρ0 ≤ ρ x) → M.Pairwise (fun a b => ρ a ≤ ρ b) → 0 ≤ ρ0 → 0 < s.l → okS s → okS z →
    (∀ g, g < 8 → s.r.getD g 0 ≤ z.r.getD g 0) → z.l = s.l + dlS z s → TkM M t → (fnS z M t).l ≤ 0 → D * s.c + D * ((fnS z M t).c - z.c) ≤ D * K + ρ0 * dlS z s → (leS s M).l ≤ 0 ∧ (leS s M).c ≤ K
  | [], s, z, t, ρ0, K, _, _, h0, hl, hs, hz, hr, hzl, _, hf, _ => by
    have hd : 0 ≤ dlS z s := sumF_nn fun g hg => by have := hr g hg; omega
    have : z.l ≤ 0 := hf
    omega
  | x :: M, s, z, t, ρ0, K, hM, hP, h0, hl, hs, hz, hr, hzl, ht, hf, hK => by
    have hd : 0 ≤ dlS z s := sumF_nn fun g hg => by have := hr g hg; omega
    obtain ⟨⟨k0, k1⟩, ht'⟩ := tkM_cons ht
    obtain ⟨hx, hrx, hle⟩ := hM x List.mem_cons_self
    have hpx := List.pairwise_cons.1 hP
    have hρx : 0 ≤ ρ x := by omega
    have hgl := lg_bd hs hx (Int.le_of_lt hl)
    have hstep : leS s (x :: M) = leS (lnS s x) M := by rw [leS, if_neg (by omega)]
    have hd2 : ρ0 * dlS z s ≤ ρ x * dlS z s := Int.mul_le_mul_of_nonneg_right hle hd
    rw [hstep]
    by_cases hlast : lgS s x = s.l
    · have e : lnS s x = ⟨s.c + divq s.l x.c x.v true, s.l - s.l, s.r.set x.g.toNat (rmS s x - s.l)⟩ := by unfold lnS; rw [hlast]; simp
      rw [e, le_done M (by show s.l - s.l ≤ 0; omega)]
      refine ⟨by show s.l - s.l ≤ 0; omega, ?_⟩
      show s.c + divq s.l x.c x.v true ≤ K
      have hT := fn_rate hD (x :: M) z t (ρ x) hz (fun y hy => ⟨(hM y hy).1, (hM y hy).2.1, by
        rcases List.mem_cons.1 hy with rfl | q
        · exact Int.le_refl _
        · exact hpx.1 y q⟩) hρx ht
      generalize fnS z (x :: M) t = f at *
      generalize dlS z s = d at *
      have a1 : ρ x * (s.l + d) ≤ ρ x * (z.l - f.l) := Int.mul_le_mul_of_nonneg_left (by omega) hρx
      have a2 : ρ x * (s.l + d) = ρ x * s.l + ρ x * d := by grind
      have a3 : ρ x * s.l ≤ D * (K - s.c) := by
        have : D * (K - s.c) = D * K - D * s.c := by grind
        omega
      have a4 : s.l * x.c ≤ (K - s.c) * x.v := by
        have b1 : ρ x * s.l * x.v ≤ D * (K - s.c) * x.v := Int.mul_le_mul_of_nonneg_right a3 (Int.le_of_lt hx.1)
        have b2 : ρ x * s.l * x.v = s.l * x.c * D := by rw [show ρ x * s.l * x.v = s.l * (ρ x * x.v) by grind, hrx]; grind
        have b3 : D * (K - s.c) * x.v = (K - s.c) * x.v * D := by grind
        rw [b2, b3] at b1
        exact Int.le_of_mul_le_mul_right b1 hD
      have := (divq_le (a := s.l) (b := x.c) (K := K - s.c) hx.1).2 a4
      omega
    · have e : lnS s x = ⟨s.c + divq (lgS s x) x.c x.v false, s.l - lgS s x, s.r.set x.g.toNat (rmS s x - lgS s x)⟩ := by unfold lnS; rw [decide_eq_false hlast]
      have hg := gn_bd hz hx k0
      have hgi : x.g.toNat < 8 := by have := hx.2.2.2; omega
      have hro := hr _ hgi
      have hq : divq (lgS s x) x.c x.v false * x.v ≤ lgS s x * x.c := by
        unfold divq
        rw [if_neg (by decide)]
        exact Int.ediv_mul_le _ (by have := hx.1; omega)
      have hgm : lgS s x = x.u * x.v ∨ lgS s x = rmS s x := by unfold lgS at hlast ⊢; omega
      have hku : t 0 * x.v ≤ x.u * x.v := Int.mul_le_mul_of_nonneg_right k1 (Int.le_of_lt hx.1)
      have hrr : rmS s x - lgS s x ≤ rmS z x - gnS z x (t 0) := by
        unfold rmS at *
        omega
      have hdl : dlS (wiS z x (t 0)) (lnS s x) = dlS z s + (lgS s x - gnS z x (t 0)) := by
        rw [e]
        exact dl_set hz.1 hs.1 hgi _ _ _ _ _ _
      refine bnd hD M (lnS s x) (wiS z x (t 0)) (fun i => t (i + 1)) (ρ x) K (fun y hy => ⟨(hM y (List.mem_cons_of_mem _ hy)).1, (hM y (List.mem_cons_of_mem _ hy)).2.1, hpx.1 y hy⟩) hpx.2 hρx ?_ (ln_ok hs hx (Int.le_of_lt hl)) (wi_ok hz hx k0) ?_ ?_ ht' hf ?_
      · rw [e]; show 0 < s.l - lgS s x; omega
      · intro g hg8
        rw [e]
        show (s.r.set _ _).getD g 0 ≤ (z.r.set _ _).getD g 0
        rw [set_at _ _ _ _ (by have := hs.1; omega), set_at _ _ _ _ (by have := hz.1; omega)]
        split
        · exact hrr
        · exact hr g hg8
      · rw [hdl, e]
        show z.l - gnS z x (t 0) = s.l - lgS s x + _
        omega
      · rw [hdl, e]
        show D * (s.c + divq (lgS s x) x.c x.v false) + D * ((fnS (wiS z x (t 0)) M (fun i => t (i + 1))).c - (z.c + t 0 * x.c)) ≤ _
        have hK' : D * s.c + D * ((fnS (wiS z x (t 0)) M (fun i => t (i + 1))).c - z.c) ≤ D * K + ρ0 * dlS z s := hK
        generalize (fnS (wiS z x (t 0)) M (fun i => t (i + 1))).c = fc at *
        generalize divq (lgS s x) x.c x.v false = q at *
        generalize lgS s x = gg at *
        generalize gnS z x (t 0) = y at *
        generalize t 0 = k at *
        generalize dlS z s = d at *
        have a1 : D * q ≤ ρ x * gg := by
          have b1 : q * x.v * D ≤ gg * x.c * D := Int.mul_le_mul_of_nonneg_right hq (Int.le_of_lt hD)
          have b2 : gg * x.c * D = ρ x * gg * x.v := by rw [show gg * x.c * D = gg * (x.c * D) by grind, ← hrx]; grind
          have b3 : q * x.v * D = D * q * x.v := by grind
          rw [b2, b3] at b1
          exact Int.le_of_mul_le_mul_right b1 hx.1
        have a2 : ρ x * y ≤ D * (k * x.c) := by
          have b1 : ρ x * y ≤ ρ x * (k * x.v) := Int.mul_le_mul_of_nonneg_left hg.2.1 hρx
          have b2 : ρ x * (k * x.v) = D * (k * x.c) := by rw [show ρ x * (k * x.v) = k * (ρ x * x.v) by grind, hrx]; grind
          omega
        have a3 : ρ x * (d + (gg - y)) = ρ x * d + ρ x * gg - ρ x * y := by grind
        have a4 : D * (s.c + q) + D * (fc - (z.c + k * x.c)) = D * s.c + D * (fc - z.c) + D * q - D * (k * x.c) := by grind
        rw [a3, a4]
        omega
end
/-! What a choice costs, by itself; what it gains. -/
def coM : List Lt → (Nat → Int) → Int
  | [], _ => 0
  | x :: M, t => t 0 * x.c + coM M (fun i => t (i + 1))
theorem fn_cost : ∀ (M : List Lt) (s : Sg) (t : Nat → Int), (fnS s M t).c = s.c + coM M t
  | [], s, t => by show s.c = s.c + 0; omega
  | x :: M, s, t => by
    have := fn_cost M (wiS s x (t 0)) (fun i => t (i + 1))
    show (fnS (wiS s x (t 0)) M _).c = s.c + (t 0 * x.c + coM M _)
    rw [this]
    show s.c + t 0 * x.c + _ = _
    omega
theorem coM_nn : ∀ (M : List Lt) (t : Nat → Int), (∀ x ∈ M, goL x) → TkM M t → 0 ≤ coM M t
  | [], t, _, _ => Int.le_refl _
  | x :: M, t, hM, ht => by
    obtain ⟨⟨k0, k1⟩, ht'⟩ := tkM_cons ht
    have ih := coM_nn M (fun i => t (i + 1)) (fun y hy => hM y (List.mem_cons_of_mem _ hy)) ht'
    have := Int.mul_nonneg k0 (hM x List.mem_cons_self).2.2.1
    show 0 ≤ t 0 * x.c + _
    omega
/-- cost aside, the same. -/
theorem fn_same : ∀ (M : List Lt) (s z : Sg) (t : Nat → Int), s.l = z.l → s.r = z.r → (fnS s M t).l = (fnS z M t).l
  | [], s, z, t, h, _ => h
  | x :: M, s, z, t, h, hr => by
    have e : gnS s x (t 0) = gnS z x (t 0) := by unfold gnS rmS; rw [hr]
    refine fn_same M (wiS s x (t 0)) (wiS z x (t 0)) _ ?_ ?_
    · show s.l - _ = z.l - _
      rw [e, h]
    · show s.r.set _ (rmS s x - _) = z.r.set _ (rmS z x - _)
      unfold rmS
      rw [e, hr]
theorem fn_down : ∀ (M : List Lt) (s : Sg) (t : Nat → Int), okS s → (∀ x ∈ M, goL x) → TkM M t → (fnS s M t).l ≤ s.l
  | [], s, t, _, _, _ => Int.le_refl _
  | x :: M, s, t, hs, hM, ht => by
    obtain ⟨⟨k0, k1⟩, ht'⟩ := tkM_cons ht
    have hx := hM x List.mem_cons_self
    have ih := fn_down M (wiS s x (t 0)) (fun i => t (i + 1)) (wi_ok hs hx k0) (fun y hy => hM y (List.mem_cons_of_mem _ hy)) ht'
    have := gn_bd hs hx k0
    have e : (wiS s x (t 0)).l = s.l - gnS s x (t 0) := rfl
    show (fnS (wiS s x (t 0)) M _).l ≤ s.l
    omega
/-- lots that add anything, by their rates. -/
def SoM (M : List Lt) : Prop := (∀ x ∈ M, goL x) ∧ M.Pairwise (fun a b => a.c * b.v ≤ b.c * a.v)
theorem so_cons {x : Lt} {M : List Lt} (h : SoM (x :: M)) : goL x ∧ SoM M := ⟨h.1 x List.mem_cons_self, fun y hy => h.1 y (List.mem_cons_of_mem _ hy), (List.pairwise_cons.1 h.2).2⟩
theorem so_drop {M : List Lt} (h : SoM M) (k : Nat) : SoM (M.drop k) := ⟨fun x hx => h.1 x (List.mem_of_mem_drop hx), h.2.sublist (List.drop_sublist k M)⟩
/-- a common measure of rates. -/
def pvL : List Lt → Int
  | [] => 1
  | x :: M => x.v * pvL M
theorem pv_pos : ∀ (M : List Lt), (∀ x ∈ M, goL x) → 0 < pvL M
  | [], _ => by decide
  | x :: M, h => Int.mul_pos (h x List.mem_cons_self).1 (pv_pos M fun y hy => h y (List.mem_cons_of_mem _ hy))
theorem pv_dvd : ∀ (M : List Lt) (x : Lt), x ∈ M → x.v ∣ pvL M
  | [], x, h => by cases h
  | y :: M, x, h => by
    rcases List.mem_cons.1 h with rfl | q
    · exact Int.dvd_mul_right _ _
    · exact Int.dvd_trans (pv_dvd M x q) (Int.dvd_mul_left _ _)
theorem so_rates {M : List Lt} (h : SoM M) : ∃ (D : Int) (ρ : Lt → Int), 0 < D ∧ (∀ x ∈ M, ρ x * x.v = x.c * D ∧ 0 ≤ ρ x) ∧ M.Pairwise (fun a b => ρ a ≤ ρ b) := by
  have hD := pv_pos M h.1
  have hr : ∀ x ∈ M, x.c * (pvL M / x.v) * x.v = x.c * pvL M ∧ 0 ≤ x.c * (pvL M / x.v) := fun x hx => by
    have hx' := h.1 x hx
    refine ⟨by rw [Int.mul_assoc, Int.ediv_mul_cancel (pv_dvd M x hx)], Int.mul_nonneg hx'.2.2.1 (Int.ediv_nonneg (Int.le_of_lt hD) (Int.le_of_lt hx'.1))⟩
  refine ⟨pvL M, fun x => x.c * (pvL M / x.v), hD, hr, ?_⟩
  refine List.Pairwise.imp_of_mem (fun {a b} ha hb hab => ?_) h.2
  have h1 := (hr a ha).1
  have h2 := (hr b hb).1
  show a.c * (pvL M / a.v) ≤ b.c * (pvL M / b.v)
  generalize a.c * (pvL M / a.v) = p at *
  generalize b.c * (pvL M / b.v) = q at *
  generalize pvL M = D at *
  have hav := (h.1 a ha).1
  have hbv := (h.1 b hb).1
  have e1 : a.c * b.v * D ≤ b.c * a.v * D := Int.mul_le_mul_of_nonneg_right hab (Int.le_of_lt hD)
  have e2 : p * (a.v * b.v) = a.c * b.v * D := by rw [show p * (a.v * b.v) = p * a.v * b.v by grind, h1]; grind
  have e3 : q * (a.v * b.v) = b.c * a.v * D := by rw [show q * (a.v * b.v) = q * b.v * a.v by grind, h2]; grind
  rw [← e2, ← e3] at e1
  exact Int.le_of_mul_le_mul_right e1 (Int.mul_pos hav hbv)
/-- what can't be cheaper is not. -/
theorem nob_no {s : Sg} {M : List Lt} {K : Int} (hM : SoM M) (hs : okS s) (h : mbC s M K = false) : NoB s M K := by
  intro t ht hf
  have hc := fn_cost M s t
  have hn := coM_nn M t hM.1 ht
  unfold mbC at h
  by_cases hl : s.l ≤ 0
  · rw [le_done M hl, decide_eq_true hl, Bool.true_and] at h
    have := of_decide_eq_false h
    omega
  · obtain ⟨D, ρ, hD, hr, hp⟩ := so_rates hM
    have hd : dlS s s = 0 := sumF_zero fun i _ => by omega
    obtain ⟨q1, q2⟩ := bnd hD M s s t 0 (fnS s M t).c (fun x hx => ⟨hM.1 x hx, (hr x hx).1, (hr x hx).2⟩) hp (Int.le_refl _) (by omega) hs hs (fun _ _ => Int.le_refl _) (by rw [hd]; omega) ht hf (by
      rw [hd, Int.mul_zero]
      have : D * (fnS s M t).c = D * s.c + D * ((fnS s M t).c - s.c) := by grind
      omega)
    rw [decide_eq_true q1, Bool.true_and] at h
    have := of_decide_eq_false h
    omega
/-- nor is it with less of a lot, of which each unit counted in full. -/
theorem nob_less {s : Sg} {x : Lt} {M : List Lt} {K u u' : Int} (hM : SoM (x :: M)) (hs : okS s) (h0 : 0 ≤ u') (h1 : u' ≤ u) (hu : u ≤ x.u) (hl : u * x.v < s.l) (hr : u * x.v < rmS s x) (h : mbC (wiS s x u) M K = false) : NoB (wiS s x u') M K := by
  intro t ht hf
  obtain ⟨D, ρ, hD, hra, hp⟩ := so_rates hM
  obtain ⟨hx, hM'⟩ := so_cons hM
  have hpx := List.pairwise_cons.1 hp
  have hv := hx.1
  have huv : u' * x.v ≤ u * x.v := Int.mul_le_mul_of_nonneg_right h1 (Int.le_of_lt hv)
  have huv0 : 0 ≤ u' * x.v := Int.mul_nonneg h0 (Int.le_of_lt hv)
  have hgu : gnS s x u = u * x.v := by unfold gnS; omega
  have hgu' : gnS s x u' = u' * x.v := by unfold gnS; omega
  have hgi : x.g.toNat < 8 := by have := hx.2.2.2; omega
  have hd : dlS (wiS s x u') (wiS s x u) = (u - u') * x.v := by
    have := dl_set (z := s) (s := s) hs.1 hs.1 hgi (gnS s x u') (gnS s x u) (s.c + u' * x.c) (s.l - gnS s x u') (s.c + u * x.c) (s.l - gnS s x u)
    have z0 : dlS s s = 0 := sumF_zero fun i _ => by omega
    rw [z0, hgu, hgu'] at this
    have e : (u - u') * x.v = u * x.v - u' * x.v := by rw [Int.sub_mul]
    rw [e]
    unfold wiS
    rw [hgu, hgu']
    unfold rmS
    omega
  have hdl : (u - u') * x.v = u * x.v - u' * x.v := by rw [Int.sub_mul]
  obtain ⟨q1, q2⟩ := bnd hD M (wiS s x u) (wiS s x u') t (ρ x) (fnS (wiS s x u') M t).c (fun y hy => ⟨hM'.1 y hy, (hra y (List.mem_cons_of_mem _ hy)).1, hpx.1 y hy⟩) hpx.2 (hra x List.mem_cons_self).2
    (by show 0 < s.l - gnS s x u; omega) (wi_ok hs hx (by omega)) (wi_ok hs hx h0)
    (fun g hg => by
      show (s.r.set _ _).getD g 0 ≤ (s.r.set _ _).getD g 0
      rw [set_at _ _ _ _ (by have := hs.1; omega), set_at _ _ _ _ (by have := hs.1; omega)]
      split
      · omega
      · exact Int.le_refl _)
    (by rw [hd, hdl]; show s.l - gnS s x u' = s.l - gnS s x u + _; omega) ht hf (by
      rw [hd]
      have e1 : ρ x * ((u - u') * x.v) = (u - u') * (x.c * D) := by rw [← (hra x List.mem_cons_self).1]; grind
      rw [e1]
      show D * (s.c + u * x.c) + D * ((fnS (wiS s x u') M t).c - (s.c + u' * x.c)) ≤ _
      generalize (fnS (wiS s x u') M t).c = f
      have : D * (s.c + u * x.c) + D * (f - (s.c + u' * x.c)) = D * f + (u - u') * (x.c * D) := by grind
      omega)
  unfold mbC at h
  rw [decide_eq_true q1, Bool.true_and] at h
  have := of_decide_eq_false h
  omega
/-- below what is of use each unit counts in full. -/
theorem us_below {s : Sg} {x : Lt} {u : Int} (hx : goL x) (h : u < usS s x) : u < x.u ∧ u * x.v < s.l ∧ u * x.v < rmS s x := by
  unfold usS at h
  have h1 : u < (min s.l (rmS s x) + x.v - 1) / x.v := by omega
  have h2 : u + 1 ≤ (min s.l (rmS s x) + x.v - 1) / x.v := by omega
  have h3 := (Int.le_ediv_iff_mul_le hx.1).1 h2
  rw [Int.add_mul] at h3
  omega
theorem us_nn {s : Sg} {x : Lt} (hx : goL x) (hs : okS s) (hl : 0 < s.l) : 0 ≤ usS s x ∧ usS s x ≤ x.u := by
  have h1 := rm_ok hs hx
  have h2 := hx.1
  have h3 := hx.2.1
  have : 0 ≤ (min s.l (rmS s x) + x.v - 1) / x.v := Int.ediv_nonneg (by omega) (by omega)
  unfold usS
  omega
/-- more than that is of no use. -/
theorem nob_push {s : Sg} {x : Lt} {M : List Lt} {K : Int} (hM : SoM (x :: M)) (hs : okS s) (hl : 0 < s.l) (h : ∀ u, 0 ≤ u → u < usS s x + 1 → NoB (wiS s x u) M K) : NoB s (x :: M) K := by
  intro t ht hf
  obtain ⟨⟨k0, k1⟩, ht'⟩ := tkM_cons ht
  obtain ⟨hx, hM'⟩ := so_cons hM
  obtain ⟨n0, n1⟩ := us_nn hx hs hl
  by_cases hk : t 0 < usS s x + 1
  · exact h (t 0) k0 hk _ ht' hf
  · have hm := h (usS s x) n0 (by omega) _ ht'
    have hv := hx.1
    have hmost : min s.l (rmS s x) ≤ usS s x * x.v := by
      have e : usS s x = (min s.l (rmS s x) + x.v - 1) / x.v := by unfold usS at *; omega
      have := Int.lt_ediv_add_one_mul_self (min s.l (rmS s x) + x.v - 1) hv
      rw [← e, Int.add_mul] at this
      omega
    have hkm : usS s x * x.v ≤ t 0 * x.v := Int.mul_le_mul_of_nonneg_right (by omega) (Int.le_of_lt hv)
    have hkc : usS s x * x.c ≤ t 0 * x.c := Int.mul_le_mul_of_nonneg_right (by omega) hx.2.2.1
    have hc1 := fn_cost M (wiS s x (t 0)) (fun i => t (i + 1))
    have hc2 := fn_cost M (wiS s x (usS s x)) (fun i => t (i + 1))
    have e1 : (wiS s x (t 0)).c = s.c + t 0 * x.c := rfl
    have e2 : (wiS s x (usS s x)).c = s.c + usS s x * x.c := rfl
    have hfin : (fnS (wiS s x (usS s x)) M (fun i => t (i + 1))).l ≤ 0 := by
      by_cases hrl : rmS s x ≤ s.l
      · have g1 : gnS s x (usS s x) = rmS s x := by unfold gnS; omega
        have g2 : gnS s x (t 0) = rmS s x := by unfold gnS; omega
        rw [fn_same M (wiS s x (usS s x)) (wiS s x (t 0)) _ (by show s.l - _ = s.l - _; rw [g1, g2]) (by show s.r.set _ _ = s.r.set _ _; rw [g1, g2])]
        exact hf
      · have g1 : s.l ≤ gnS s x (usS s x) := by unfold gnS; omega
        have := fn_down M (wiS s x (usS s x)) (fun i => t (i + 1)) (wi_ok hs hx n0) hM'.1 ht'
        have e3 : (wiS s x (usS s x)).l = s.l - gnS s x (usS s x) := rfl
        omega
    have := hm hfin
    show K ≤ (fnS (wiS s x (t 0)) M _).c
    omega
end Go.Proofs.YtmihpgccdknhfaaDoor

/-
  Alloc: the search, step by step; what it keeps.
-/
namespace Go.Proofs.YtmihpgccdknhfaaDoor
open Go Go.RowKit
set_option linter.unusedVariables false

/-- where units of a lot are chosen. -/
structure Br where
  a : Sg
  m : Int
  u : Int
def sgZ : Sg := ⟨0, 0, [0, 0, 0, 0, 0, 0, 0, 0]⟩
def brZ : Br := ⟨sgZ, 0, 0⟩
structure Se where
  st : List Br
  best : List Int
  cost : Int
  looked : Int
/-- the choice on the stack, as a take of m lots. -/
def kpL (pl : List Nat) (st : List Br) (m : Nat) : Nat → List Int
  | 0 => List.replicate m 0
  | k + 1 => (kpL pl st m k).set (pl.getD k 0) (st.getD k brZ).u
def dcB (b : Br) : Br := ⟨b.a, b.m, b.u - 1⟩
def puB (c : Sg) (x : Lt) : Br := ⟨c, usS c x, usS c x + 1⟩
/-- the next number of units of the lot on top: P are the levels below it. -/
def stP (M : List Lt) (pl : List Nat) (bud : Int) (x : Se) (P : List Br) (b : Br) : Se × Bool :=
  if b.u - 1 < 0 then (⟨P, x.best, x.cost, x.looked⟩, true) else
  if mbC (wiS b.a (M.getD P.length ltZ) (b.u - 1)) (M.drop (P.length + 1)) x.cost = true then
    if 0 < (wiS b.a (M.getD P.length ltZ) (b.u - 1)).l then (⟨P ++ [dcB b] ++ [puB (wiS b.a (M.getD P.length ltZ) (b.u - 1)) (M.getD (P.length + 1) ltZ)], x.best, x.cost, x.looked⟩, true)
    else if x.looked = bud then (⟨P ++ [dcB b], x.best, x.cost, x.looked⟩, false)
    else (⟨P ++ [dcB b], kpL pl (P ++ [dcB b]) x.best.length (P.length + 1), (wiS b.a (M.getD P.length ltZ) (b.u - 1)).c, x.looked + 1⟩, true)
  else if x.looked = bud then (⟨P ++ [dcB b], x.best, x.cost, x.looked⟩, false)
  else if b.u - 1 < b.m then (⟨P, x.best, x.cost, x.looked + 1⟩, true)
  else (⟨P ++ [dcB b], x.best, x.cost, x.looked + 1⟩, true)
def stS (M : List Lt) (pl : List Nat) (bud : Int) (x : Se) : Se × Bool := stP M pl bud x x.st.dropLast (x.st.getD (x.st.length - 1) brZ)
def ruS (M : List Lt) (pl : List Nat) (bud : Int) : Nat → Se → Se × Bool
  | 0, x => (x, true)
  | f + 1, x => if x.st = [] then (x, true) else if (stS M pl bud x).2 = true then ruS M pl bud f (stS M pl bud x).1 else ((stS M pl bud x).1, false)
theorem br_at (P R : List Br) (b : Br) : (P ++ b :: R).getD P.length brZ = b := by
  rw [List.getD_eq_getElem?_getD, List.getElem?_append_right (Nat.le_refl _), Nat.sub_self]; rfl
theorem br_left (P R : List Br) {k : Nat} (h : k < P.length) : (P ++ R).getD k brZ = P.getD k brZ := by
  rw [List.getD_eq_getElem?_getD, List.getElem?_append_left h, List.getD_eq_getElem?_getD]
theorem st_snoc {M : List Lt} {pl : List Nat} {bud : Int} {x : Se} {P : List Br} {b : Br} (h : x.st = P ++ [b]) : stS M pl bud x = stP M pl bud x P b := by
  unfold stS
  rw [h, List.dropLast_concat, List.length_append, List.length_singleton, Nat.add_sub_cancel, br_at]
theorem snoc_of {st : List Br} (h : st ≠ []) : ∃ P b, st = P ++ [b] := ⟨st.dropLast, st.getLast h, (List.dropLast_concat_getLast h).symm⟩

/-- the state behind the levels of a stack. -/
def enS : Sg → List Lt → List Br → Sg
  | s, x :: M, b :: P => enS (wiS s x b.u) M P
  | s, _, _ => s
/-- levels of which each stands on the one below it. -/
def StS : Sg → List Lt → List Br → Prop
  | _, _, [] => True
  | s, x :: M, b :: P => (b.a = s ∧ 0 < s.l ∧ b.m = usS s x ∧ 0 ≤ b.u ∧ b.u ≤ b.m) ∧ StS (wiS s x b.u) M P
  | _, [], _ :: _ => False
/-- what is still to be tried costs no less than K. -/
def TdS : Sg → List Lt → List Br → Int → Prop
  | s, x :: M, b :: P, K => (∀ u, 0 ≤ u → u < b.u → NoB (wiS s x u) M K) ∧ TdS (wiS s x b.u) M P K
  | _, _, _, _ => True
def LvS (s : Sg) (x : Lt) (b : Br) (e : Int) : Prop := b.a = s ∧ 0 < s.l ∧ b.m = usS s x ∧ 0 ≤ b.u ∧ b.u ≤ b.m + e
theorem en_snoc (b : Br) : ∀ (P : List Br) (s : Sg) (M : List Lt), P.length < M.length → enS s M (P ++ [b]) = wiS (enS s M P) (M.getD P.length ltZ) b.u
  | [], s, x :: M, _ => by
    show enS (wiS s x b.u) M [] = wiS (enS s (x :: M) []) x b.u
    cases M <;> rfl
  | [], s, [], h => by simp at h
  | c :: P, s, [], h => by simp at h
  | c :: P, s, x :: M, h => en_snoc b P (wiS s x c.u) M (by simpa using h)
theorem stS_snoc (b : Br) : ∀ (P : List Br) (s : Sg) (M : List Lt), StS s M (P ++ [b]) ↔ StS s M P ∧ P.length < M.length ∧ LvS (enS s M P) (M.getD P.length ltZ) b 0
  | [], s, x :: M => by
    show (_ ∧ StS _ M []) ↔ True ∧ _ ∧ LvS (enS s (x :: M) []) x b 0
    unfold LvS
    simp [StS, enS]
  | [], s, [] => by
    show False ↔ _
    simp
  | c :: P, s, [] => by
    show False ↔ _ ∧ _
    simp
  | c :: P, s, x :: M => by
    have ih := stS_snoc b P (wiS s x c.u) M
    show (_ ∧ StS (wiS s x c.u) M (P ++ [b])) ↔ (_ ∧ StS (wiS s x c.u) M P) ∧ P.length + 1 < M.length + 1 ∧ LvS (enS (wiS s x c.u) M P) (M.getD P.length ltZ) b 0
    rw [ih, Nat.add_lt_add_iff_right]
    exact ⟨fun h => ⟨⟨h.1, h.2.1⟩, h.2.2⟩, fun h => ⟨h.1.1, h.1.2, h.2⟩⟩
theorem td_snoc (b : Br) (K : Int) : ∀ (P : List Br) (s : Sg) (M : List Lt), P.length < M.length → (TdS s M (P ++ [b]) K ↔ TdS s M P K ∧ ∀ u, 0 ≤ u → u < b.u → NoB (wiS (enS s M P) (M.getD P.length ltZ) u) (M.drop (P.length + 1)) K)
  | [], s, x :: M, _ => by
    show ((∀ u, 0 ≤ u → u < b.u → NoB (wiS s x u) M K) ∧ TdS _ M [] K) ↔ True ∧ ∀ u, 0 ≤ u → u < b.u → NoB (wiS s x u) M K
    have : TdS (wiS s x b.u) M [] K = True := by cases M <;> rfl
    rw [this, and_true, true_and]
  | [], s, [], h => by simp at h
  | c :: P, s, [], h => by simp at h
  | c :: P, s, x :: M, h => by
    have ih := td_snoc b K P (wiS s x c.u) M (by simpa using h)
    show (_ ∧ TdS (wiS s x c.u) M (P ++ [b]) K) ↔ (_ ∧ TdS (wiS s x c.u) M P K) ∧ ∀ u, 0 ≤ u → u < b.u → NoB (wiS (enS (wiS s x c.u) M P) (M.getD P.length ltZ) u) (M.drop (P.length + 1)) K
    rw [ih, and_assoc]
theorem en_ok : ∀ (P : List Br) (s : Sg) (M : List Lt), okS s → (∀ x ∈ M, goL x) → StS s M P → okS (enS s M P)
  | [], s, [], h, _, _ => h
  | [], s, x :: M, h, _, _ => h
  | c :: P, s, [], h, _, hs => by cases hs
  | c :: P, s, x :: M, h, hM, hs => en_ok P (wiS s x c.u) M (wi_ok h (hM x List.mem_cons_self) hs.1.2.2.2.1) (fun y hy => hM y (List.mem_cons_of_mem _ hy)) hs.2
theorem mem_drop_cons {M : List Lt} {k : Nat} (h : k < M.length) : M.drop k = M.getD k ltZ :: M.drop (k + 1) := by
  rw [List.drop_eq_getElem_cons h, List.getD_eq_getElem?_getD, List.getElem?_eq_getElem h]; rfl
theorem go_at {M : List Lt} (hM : ∀ x ∈ M, goL x) {k : Nat} (h : k < M.length) : goL (M.getD k ltZ) := by
  rw [List.getD_eq_getElem?_getD, List.getElem?_eq_getElem h]; exact hM _ (List.getElem_mem h)
/-- a choice that begins as the stack has it. -/
theorem fn_stack : ∀ (P : List Br) (s : Sg) (M : List Lt) (t : Nat → Int), P.length ≤ M.length → (∀ j, j < P.length → t j = (P.getD j brZ).u) → fnS s M t = fnS (enS s M P) (M.drop P.length) (fun i => t (i + P.length))
  | [], s, M, t, _, _ => by
    show _ = fnS (enS s M []) M _
    have : enS s M [] = s := by cases M <;> rfl
    rw [this]
    rfl
  | c :: P, s, [], t, h, _ => by simp at h
  | c :: P, s, x :: M, t, h, ht => by
    have h0 : t 0 = c.u := ht 0 (by simp)
    have ih := fn_stack P (wiS s x (t 0)) M (fun i => t (i + 1)) (by simpa using h) (fun j hj => ht (j + 1) (by simpa using hj))
    show fnS (wiS s x (t 0)) M (fun i => t (i + 1)) = fnS (enS (wiS s x c.u) M P) (M.drop P.length) (fun i => t (i + (P.length + 1)))
    rw [ih, h0]
    rfl
theorem fn_zero : ∀ (M : List Lt) (s : Sg) (t : Nat → Int), okS s → (∀ x ∈ M, goL x) → (∀ j, j < M.length → t j = 0) → (fnS s M t).c = s.c ∧ (fnS s M t).l = s.l
  | [], s, t, _, _, _ => ⟨rfl, rfl⟩
  | x :: M, s, t, hs, hM, ht => by
    have hx := hM x List.mem_cons_self
    have h0 : t 0 = 0 := ht 0 (by simp)
    have hg := gn_bd hs hx (Int.le_refl 0)
    rw [Int.zero_mul] at hg
    obtain ⟨q1, q2⟩ := fn_zero M (wiS s x (t 0)) (fun i => t (i + 1)) (wi_ok hs hx (by omega)) (fun y hy => hM y (List.mem_cons_of_mem _ hy)) (fun j hj => ht (j + 1) (by simpa using hj))
    refine ⟨q1.trans ?_, q2.trans ?_⟩
    · show s.c + t 0 * x.c = s.c
      rw [h0]; omega
    · show s.l - gnS s x (t 0) = s.l
      rw [h0]; omega

/-! How much is left to be tried. -/
def potS (V : Nat → Int) (e : Int) (st : List Br) : Int := sumF (fun k => (st.getD k brZ).u * V (k + 1) + e) st.length
theorem pot_snoc (V : Nat → Int) (e : Int) (P : List Br) (b : Br) : potS V e (P ++ [b]) = potS V e P + (b.u * V (P.length + 1) + e) := by
  unfold potS
  rw [List.length_append, List.length_singleton]
  show sumF _ P.length + (((P ++ [b]).getD P.length brZ).u * _ + e) = _
  rw [br_at, sumF_same (g := fun k => (P.getD k brZ).u * V (k + 1) + e) (fun i hi => by rw [br_left P [b] hi])]
def pdL : List Lt → Int
  | [] => 1
  | x :: M => (x.u + 1) * pdL M
def trL : List Lt → Int
  | [] => 0
  | x :: M => (x.u + 1) * (1 + trL M) + 1
def pdA (M : List Lt) (k : Nat) : Int := pdL (M.drop k)
def trA (M : List Lt) (k : Nat) : Int := 1 + trL (M.drop k)
theorem pd_pos : ∀ (M : List Lt), (∀ x ∈ M, goL x) → 1 ≤ pdL M
  | [], _ => by decide
  | x :: M, h => by
    have ih := pd_pos M fun y hy => h y (List.mem_cons_of_mem _ hy)
    have hx := (h x List.mem_cons_self).2.1
    have : 0 < (x.u + 1) * pdL M := Int.mul_pos (by omega) (by omega)
    show 1 ≤ (x.u + 1) * pdL M
    omega
theorem tr_nn : ∀ (M : List Lt), (∀ x ∈ M, goL x) → 0 ≤ trL M
  | [], _ => by decide
  | x :: M, h => by
    have ih := tr_nn M fun y hy => h y (List.mem_cons_of_mem _ hy)
    have hx := (h x List.mem_cons_self).2.1
    have : 0 ≤ (x.u + 1) * (1 + trL M) := Int.mul_nonneg (by omega) (by omega)
    show 0 ≤ (x.u + 1) * (1 + trL M) + 1
    omega
section
variable {M : List Lt}
theorem pdA_step {k : Nat} (h : k < M.length) : pdA M k = ((M.getD k ltZ).u + 1) * pdA M (k + 1) := by
  unfold pdA
  rw [mem_drop_cons h]
  rfl
theorem trA_step {k : Nat} (h : k < M.length) : trA M k = ((M.getD k ltZ).u + 1) * trA M (k + 1) + 2 := by
  unfold trA
  rw [mem_drop_cons h]
  show 1 + (((M.getD k ltZ).u + 1) * (1 + trL (M.drop (k + 1))) + 1) = _
  omega
theorem pdA_pos (hM : ∀ x ∈ M, goL x) (k : Nat) : 1 ≤ pdA M k := pd_pos _ fun x hx => hM x (List.mem_of_mem_drop hx)
theorem trA_pos (hM : ∀ x ∈ M, goL x) (k : Nat) : 1 ≤ trA M k := by
  have := tr_nn (M.drop k) fun x hx => hM x (List.mem_of_mem_drop hx)
  unfold trA
  omega
end

/-! The search keeps what it has to. -/
/-- of a stack: nothing, or settled levels and one on top. -/
def TopS (s0 : Sg) (M : List Lt) (st : List Br) : Prop := st = [] ∨ ∃ P b, st = P ++ [b] ∧ StS s0 M P ∧ P.length < M.length ∧ LvS (enS s0 M P) (M.getD P.length ltZ) b 1
theorem top_of {s0 : Sg} {M : List Lt} {P : List Br} (h : StS s0 M P) : TopS s0 M P := by
  by_cases e : P = []
  · exact .inl e
  · obtain ⟨Q, b, rfl⟩ := snoc_of e
    obtain ⟨h1, h2, h3⟩ := (stS_snoc b Q s0 M).1 h
    refine .inr ⟨Q, b, rfl, h1, h2, h3.1, h3.2.1, h3.2.2.1, h3.2.2.2.1, by have := h3.2.2.2.2; omega⟩
structure SI (s0 : Sg) (M : List Lt) (bud : Int) (G : List Int → Int → Prop) (x : Se) : Prop where
  top : TopS s0 M x.st
  todo : ∀ K, K ≤ x.cost → TdS s0 M x.st K → NoB s0 M K
  good : G x.best x.cost
  look : 0 ≤ x.looked ∧ x.looked ≤ bud
  pot : x.looked + potS (pdA M) 0 x.st ≤ pdA M 0
theorem pot_nn {V : Nat → Int} {e : Int} (he : 0 ≤ e) (hV : ∀ k, 0 ≤ V k) {s0 : Sg} {M : List Lt} : ∀ {P : List Br}, StS s0 M P → 0 ≤ potS V e P := by
  have H : ∀ n : Nat, ∀ P : List Br, P.length = n → StS s0 M P → 0 ≤ potS V e P := by
    intro n
    induction n with
    | zero => intro P hP _; rw [List.eq_nil_of_length_eq_zero hP]; exact Int.le_refl _
    | succ n ih =>
      intro P hP hS
      obtain ⟨Q, b, rfl⟩ := snoc_of (st := P) (by intro q; rw [q] at hP; simp at hP)
      obtain ⟨h1, h2, h3⟩ := (stS_snoc b Q s0 M).1 hS
      have h4 := ih Q (by simpa using hP) h1
      have h5 := Int.mul_nonneg h3.2.2.2.1 (hV (Q.length + 1))
      rw [pot_snoc]
      omega
  intro P h
  exact H _ P rfl h
/-- one step: what is kept, and that less is left; or the budget is spent. -/
theorem st_step {s0 : Sg} {M : List Lt} {pl : List Nat} {bud : Int} {G : List Int → Int → Prop} (hM : SoM M) (h0 : okS s0)
    (hG : ∀ (P : List Br) (best : List Int) (cost : Int), G best cost → StS s0 M P → P.length ≤ M.length → (enS s0 M P).l ≤ 0 → G (kpL pl P best.length P.length) (enS s0 M P).c)
    {x : Se} (hx : SI s0 M bud G x) (hne : x.st ≠ []) :
    ((stS M pl bud x).2 = true → SI s0 M bud G (stS M pl bud x).1 ∧ (stS M pl bud x).1.cost ≤ x.cost ∧ potS (trA M) 1 (stS M pl bud x).1.st < potS (trA M) 1 x.st) ∧
    ((stS M pl bud x).2 = false → G (stS M pl bud x).1.best (stS M pl bud x).1.cost ∧ (stS M pl bud x).1.cost = x.cost ∧ (stS M pl bud x).1.looked = bud ∧ bud < pdA M 0) := by
  obtain ⟨htop, htodo, hgood, hlook, hpot⟩ := hx
  rcases htop with htop | ⟨P, b, hst, hP, hlen, hb⟩
  · exact absurd htop hne
  rw [st_snoc hst]
  rw [hst] at htodo hpot ⊢
  have hgo := hM.1
  have hgx := go_at hgo hlen
  have hen := en_ok P s0 M h0 hgo hP
  obtain ⟨ha, hl, hm, hu0, hu1⟩ := hb
  rw [pot_snoc] at hpot ⊢
  have hpp := pot_nn (V := pdA M) (e := 0) (Int.le_refl _) (fun k => by have := pdA_pos hgo k; omega) hP
  have hW := pdA_pos hgo (P.length + 1)
  have hT := trA_pos hgo (P.length + 1)
  have hns := us_nn hgx hen hl
  have hdrop := mem_drop_cons hlen
  have hso := so_drop hM P.length
  rw [hdrop] at hso
  obtain ⟨_, hso'⟩ := so_cons hso
  have ed : (dcB b).u = b.u - 1 := rfl
  unfold stP
  by_cases c1 : b.u - 1 < 0
  · rw [if_pos c1]
    have hb0 : b.u = 0 := by omega
    refine ⟨fun _ => ⟨⟨top_of hP, fun K hK htd => htodo K hK ((td_snoc b K P s0 M hlen).2 ⟨htd, fun u q1 q2 => by omega⟩), hgood, hlook, ?_⟩, Int.le_refl _, ?_⟩, fun q => by simp at q⟩
    · rw [hb0, Int.zero_mul] at hpot
      show x.looked + potS (pdA M) 0 P ≤ _
      omega
    · rw [hb0, Int.zero_mul]
      show potS (trA M) 1 P < _
      omega
  · rw [if_neg c1]
    have hen' : enS s0 M (P ++ [dcB b]) = wiS b.a (M.getD P.length ltZ) (b.u - 1) := by rw [en_snoc (dcB b) P s0 M hlen, ha]; rfl
    have hset : StS s0 M (P ++ [dcB b]) := (stS_snoc (dcB b) P s0 M).2 ⟨hP, hlen, ha, hl, hm, by rw [ed]; omega, by rw [ed]; show b.u - 1 ≤ b.m + 0; omega⟩
    have hokc : okS (wiS b.a (M.getD P.length ltZ) (b.u - 1)) := by rw [ha]; exact wi_ok hen hgx (by omega)
    have hmul : b.u * pdA M (P.length + 1) = (b.u - 1) * pdA M (P.length + 1) + pdA M (P.length + 1) := by rw [Int.sub_mul]; omega
    have hmulT : b.u * trA M (P.length + 1) = (b.u - 1) * trA M (P.length + 1) + trA M (P.length + 1) := by rw [Int.sub_mul]; omega
    have hmul0 : 0 ≤ (b.u - 1) * pdA M (P.length + 1) := Int.mul_nonneg (by omega) (by omega)
    have hmulT0 : 0 ≤ (b.u - 1) * trA M (P.length + 1) := Int.mul_nonneg (by omega) (by omega)
    have hpd := pot_snoc (pdA M) 0 P (dcB b)
    have hpt := pot_snoc (trA M) 1 P (dcB b)
    rw [ed] at hpd hpt
    have hlenD : (P ++ [dcB b]).length = P.length + 1 := by simp
    have hstop : ∀ K, K ≤ x.cost → NoB (wiS b.a (M.getD P.length ltZ) (b.u - 1)) (M.drop (P.length + 1)) K → TdS s0 M (P ++ [dcB b]) K → NoB s0 M K := fun K hK hn htd => by
      obtain ⟨q1, q2⟩ := (td_snoc (dcB b) K P s0 M hlen).1 htd
      refine htodo K hK ((td_snoc b K P s0 M hlen).2 ⟨q1, fun u u0 u1 => ?_⟩)
      by_cases e : u = b.u - 1
      · subst e; rw [← ha]; exact hn
      · exact q2 u u0 (by rw [ed]; omega)
    by_cases c2 : mbC (wiS b.a (M.getD P.length ltZ) (b.u - 1)) (M.drop (P.length + 1)) x.cost = true
    · rw [if_pos c2]
      by_cases c3 : 0 < (wiS b.a (M.getD P.length ltZ) (b.u - 1)).l
      · rw [if_pos c3]
        have hlen2 : P.length + 1 < M.length := by
          apply Decidable.byContradiction
          intro hh
          have : M.drop (P.length + 1) = [] := List.drop_of_length_le (by omega)
          rw [this] at c2
          unfold mbC leS at c2
          rw [decide_eq_false (by omega)] at c2
          simp at c2
        have hgx2 := go_at hgo hlen2
        have hns2 := us_nn hgx2 hokc c3
        have hW2 := pdA_pos hgo (P.length + 1 + 1)
        have hT2 := trA_pos hgo (P.length + 1 + 1)
        have hst2 := pdA_step hlen2
        have hst3 := trA_step hlen2
        have hdrop2 := mem_drop_cons hlen2
        have hso2 := so_drop hM (P.length + 1)
        rw [hdrop2] at hso2
        have eu : (puB (wiS b.a (M.getD P.length ltZ) (b.u - 1)) (M.getD (P.length + 1) ltZ)).u = usS (wiS b.a (M.getD P.length ltZ) (b.u - 1)) (M.getD (P.length + 1) ltZ) + 1 := rfl
        have em : (puB (wiS b.a (M.getD P.length ltZ) (b.u - 1)) (M.getD (P.length + 1) ltZ)).m = usS (wiS b.a (M.getD P.length ltZ) (b.u - 1)) (M.getD (P.length + 1) ltZ) := rfl
        have hpd2 := pot_snoc (pdA M) 0 (P ++ [dcB b]) (puB (wiS b.a (M.getD P.length ltZ) (b.u - 1)) (M.getD (P.length + 1) ltZ))
        have hpt2 := pot_snoc (trA M) 1 (P ++ [dcB b]) (puB (wiS b.a (M.getD P.length ltZ) (b.u - 1)) (M.getD (P.length + 1) ltZ))
        rw [hlenD, eu] at hpd2 hpt2
        have hle : (usS (wiS b.a (M.getD P.length ltZ) (b.u - 1)) (M.getD (P.length + 1) ltZ) + 1) * pdA M (P.length + 1 + 1) ≤ pdA M (P.length + 1) := by
          rw [hst2]; exact Int.mul_le_mul_of_nonneg_right (by omega) (by omega)
        have hleT : (usS (wiS b.a (M.getD P.length ltZ) (b.u - 1)) (M.getD (P.length + 1) ltZ) + 1) * trA M (P.length + 1 + 1) + 2 ≤ trA M (P.length + 1) := by
          rw [hst3]
          have : (usS (wiS b.a (M.getD P.length ltZ) (b.u - 1)) (M.getD (P.length + 1) ltZ) + 1) * trA M (P.length + 1 + 1) ≤ ((M.getD (P.length + 1) ltZ).u + 1) * trA M (P.length + 1 + 1) := Int.mul_le_mul_of_nonneg_right (by omega) (by omega)
          omega
        refine ⟨fun _ => ⟨⟨.inr ⟨P ++ [dcB b], _, rfl, hset, by rw [hlenD]; exact hlen2, ?_⟩, fun K hK htd => ?_, hgood, hlook, ?_⟩, Int.le_refl _, ?_⟩, fun q => by simp at q⟩
        · rw [hen', hlenD]
          refine ⟨rfl, c3, rfl, by rw [eu]; omega, by rw [eu, em]; exact Int.le_refl _⟩
        · obtain ⟨q1, q2⟩ := (td_snoc _ K (P ++ [dcB b]) s0 M (by rw [hlenD]; exact hlen2)).1 htd
          rw [hen', hlenD] at q2
          refine hstop K hK ?_ q1
          rw [hdrop2]
          exact nob_push hso2 hokc c3 fun u u0 u1 => q2 u u0 (by rw [eu]; exact u1)
        · show x.looked + potS (pdA M) 0 _ ≤ _
          rw [hpd2]
          omega
        · show potS (trA M) 1 _ < _
          rw [hpt2]
          omega
      · rw [if_neg c3]
        by_cases c4 : x.looked = bud
        · rw [if_pos c4]
          refine ⟨fun q => by simp at q, fun _ => ⟨hgood, rfl, c4, by omega⟩⟩
        · rw [if_neg c4]
          have hcl : (wiS b.a (M.getD P.length ltZ) (b.u - 1)).c < x.cost := by
            unfold mbC at c2
            rw [le_done _ (by omega)] at c2
            simp at c2
            exact c2.2
          refine ⟨fun _ => ⟨⟨top_of hset, fun K hK htd => ?_, ?_, ?_, ?_⟩, Int.le_of_lt hcl, ?_⟩, fun q => by simp at q⟩
          · refine hstop K (by have : K ≤ (wiS b.a (M.getD P.length ltZ) (b.u - 1)).c := hK; omega) ?_ htd
            intro t ht hf
            have h1 := fn_cost (M.drop (P.length + 1)) (wiS b.a (M.getD P.length ltZ) (b.u - 1)) t
            have h2 := coM_nn _ t hso'.1 ht
            have : K ≤ (wiS b.a (M.getD P.length ltZ) (b.u - 1)).c := hK
            omega
          · have := hG (P ++ [dcB b]) x.best x.cost hgood hset (by rw [hlenD]; omega) (by rw [hen']; omega)
            rw [hen', hlenD] at this
            exact this
          · show 0 ≤ x.looked + 1 ∧ x.looked + 1 ≤ bud
            omega
          · show x.looked + 1 + potS (pdA M) 0 (P ++ [dcB b]) ≤ _
            omega
          · show potS (trA M) 1 (P ++ [dcB b]) < _
            omega
    · rw [if_neg c2]
      have c2' : mbC (wiS b.a (M.getD P.length ltZ) (b.u - 1)) (M.drop (P.length + 1)) x.cost = false := by simpa using c2
      have hno := nob_no hso' hokc c2'
      have hnoK : ∀ K, K ≤ x.cost → NoB (wiS b.a (M.getD P.length ltZ) (b.u - 1)) (M.drop (P.length + 1)) K := fun K hK t ht hf => Int.le_trans hK (hno t ht hf)
      by_cases c4 : x.looked = bud
      · rw [if_pos c4]
        refine ⟨fun q => by simp at q, fun _ => ⟨hgood, rfl, c4, by omega⟩⟩
      · rw [if_neg c4]
        by_cases c5 : b.u - 1 < b.m
        · rw [if_pos c5]
          rw [hm] at c5
          obtain ⟨k1, k2, k3⟩ := us_below hgx c5
          refine ⟨fun _ => ⟨⟨top_of hP, fun K hK htd => htodo K hK ((td_snoc b K P s0 M hlen).2 ⟨htd, fun u u0 u1 => ?_⟩), hgood, ?_, ?_⟩, Int.le_refl _, ?_⟩, fun q => by simp at q⟩
          · rw [ha] at c2'
            have := nob_less (u' := u) hso hen u0 (by omega) (by omega) k2 k3 c2'
            exact fun t ht hf => Int.le_trans hK (this t ht hf)
          · show 0 ≤ x.looked + 1 ∧ x.looked + 1 ≤ bud
            omega
          · show x.looked + 1 + potS (pdA M) 0 P ≤ _
            omega
          · show potS (trA M) 1 P < _
            omega
        · rw [if_neg c5]
          refine ⟨fun _ => ⟨⟨top_of hset, fun K hK htd => hstop K hK (hnoK K hK) htd, hgood, ?_, ?_⟩, Int.le_refl _, ?_⟩, fun q => by simp at q⟩
          · show 0 ≤ x.looked + 1 ∧ x.looked + 1 ≤ bud
            omega
          · show x.looked + 1 + potS (pdA M) 0 (P ++ [dcB b]) ≤ _
            omega
          · show potS (trA M) 1 (P ++ [dcB b]) < _
            omega
/-- the whole search: what it ends with. -/
theorem ru_ends {s0 : Sg} {M : List Lt} {pl : List Nat} {bud : Int} {G : List Int → Int → Prop} (hM : SoM M) (h0 : okS s0)
    (hG : ∀ (P : List Br) (best : List Int) (cost : Int), G best cost → StS s0 M P → P.length ≤ M.length → (enS s0 M P).l ≤ 0 → G (kpL pl P best.length P.length) (enS s0 M P).c) :
    ∀ (f : Nat) (x : Se), SI s0 M bud G x → potS (trA M) 1 x.st ≤ (f : Int) → G (ruS M pl bud f x).1.best (ruS M pl bud f x).1.cost ∧ (ruS M pl bud f x).1.cost ≤ x.cost ∧ (0 ≤ (ruS M pl bud f x).1.looked ∧ (ruS M pl bud f x).1.looked ≤ bud) ∧
      ((ruS M pl bud f x).2 = true → NoB s0 M (ruS M pl bud f x).1.cost) ∧ ((ruS M pl bud f x).2 = false → bud < pdA M 0)
  | 0, x, hx, hf => by
    have he : x.st = [] := by
      rcases hx.top with h | ⟨P, b, hst, hP, hlen, hb⟩
      · exact h
      · have h1 := pot_nn (V := trA M) (e := 1) (by omega) (fun k => by have := trA_pos hM.1 k; omega) hP
        have h2 := Int.mul_nonneg hb.2.2.2.1 (Int.le_trans (by decide) (trA_pos hM.1 (P.length + 1)))
        rw [hst, pot_snoc] at hf
        simp at hf
        omega
    refine ⟨hx.good, Int.le_refl _, hx.look, fun _ => hx.todo _ (Int.le_refl _) ?_, fun q => by cases q⟩
    show TdS s0 M x.st x.cost
    rw [he]
    cases M <;> trivial
  | f + 1, x, hx, hf => by
    unfold ruS
    by_cases he : x.st = []
    · rw [if_pos he]
      refine ⟨hx.good, Int.le_refl _, hx.look, fun _ => hx.todo _ (Int.le_refl _) ?_, fun q => by cases q⟩
      rw [he]
      cases M <;> trivial
    · rw [if_neg he]
      obtain ⟨h1, h2⟩ := st_step (pl := pl) hM h0 hG hx he
      by_cases hr : (stS M pl bud x).2 = true
      · rw [if_pos hr]
        obtain ⟨q1, q2, q3⟩ := h1 hr
        obtain ⟨r1, r2, r3, r4, r5⟩ := ru_ends hM h0 hG f _ q1 (by omega)
        exact ⟨r1, Int.le_trans r2 q2, r3, r4, r5⟩
      · rw [if_neg hr]
        have hr' : (stS M pl bud x).2 = false := by simpa using hr
        obtain ⟨q1, q2, q3, q4⟩ := h2 hr'
        refine ⟨q1, by rw [q2]; exact Int.le_refl _, ?_, fun q => (by simp at q), fun _ => q4⟩
        have := hx.look
        show 0 ≤ (stS M pl bud x).1.looked ∧ (stS M pl bud x).1.looked ≤ bud
        omega
end Go.Proofs.YtmihpgccdknhfaaDoor

/-
  Alloc: the lots' places in order; a take of the problem and the search's choices; what is found.
-/
namespace Go.Proofs.YtmihpgccdknhfaaDoor
open Go Go.RowKit
set_option linter.unusedVariables false

/-! Places. -/
def plF (L : List Lt) : Nat → List Nat
  | 0 => []
  | k + 1 => if ratedB (L.getD k ltZ) = true then plF L k ++ [k] else plF L k
def sqTo (L : List Lt) (q : List Nat) : Nat → List Nat
  | 0 => []
  | k + 1 => ins L (sqTo L q k) (q.getD k 0)
def plL (L : List Lt) : List Nat := sqTo L (plF L L.length) (plF L L.length).length
def moM (L : List Lt) (pl : List Nat) : List Lt := pl.map fun i => L.getD i ltZ
theorem sqTo_len (L : List Lt) (q : List Nat) : ∀ k, (sqTo L q k).length = k
  | 0 => rfl
  | k + 1 => by rw [sqTo, ins_len, sqTo_len L q k]
theorem plF_len (L : List Lt) : ∀ k, (plF L k).length ≤ k
  | 0 => Nat.le_refl _
  | k + 1 => by
    have := plF_len L k
    unfold plF
    split
    · rw [List.length_append, List.length_singleton]; omega
    · omega
theorem plL_len (L : List Lt) : (plL L).length = (plF L L.length).length := sqTo_len _ _ _
theorem ins_perm (L : List Lt) (s : List Nat) (x : Nat) : (ins L s x).Perm (x :: s) := by
  unfold ins
  refine List.perm_middle.trans ?_
  rw [List.take_append_drop]
theorem sq_perm (L : List Lt) (q : List Nat) : ∀ k, k ≤ q.length → (sqTo L q k).Perm (q.take k)
  | 0, _ => by simp [sqTo]
  | k + 1, h => by
    have ih := sq_perm L q k (by omega)
    rw [sqTo, List.take_succ_eq_append_getElem (by omega), List.getD_eq_getElem?_getD, List.getElem?_eq_getElem (by omega)]
    refine (ins_perm L _ _).trans ?_
    refine ((List.Perm.cons _ ih)).trans ?_
    exact (List.perm_append_singleton _ _).symm
theorem pl_perm (L : List Lt) : (plL L).Perm (plF L L.length) := by
  have := sq_perm L (plF L L.length) _ (Nat.le_refl _)
  rwa [List.take_length] at this
theorem mem_plF {L : List Lt} {i : Nat} : ∀ {k : Nat}, i ∈ plF L k ↔ i < k ∧ ratedB (L.getD i ltZ) = true
  | 0 => by simp [plF]
  | k + 1 => by
    have ih := mem_plF (L := L) (i := i) (k := k)
    unfold plF
    by_cases h : ratedB (L.getD k ltZ) = true
    · rw [if_pos h, List.mem_append, List.mem_singleton, ih]
      constructor
      · rintro (q | rfl)
        · exact ⟨by omega, q.2⟩
        · exact ⟨by omega, h⟩
      · intro q
        by_cases e : i = k
        · exact .inr e
        · exact .inl ⟨by omega, q.2⟩
    · rw [if_neg h, ih]
      constructor
      · intro q; exact ⟨by omega, q.2⟩
      · intro q
        refine ⟨?_, q.2⟩
        by_cases e : i = k
        · subst e; exact absurd q.2 h
        · omega
theorem nodup_plF (L : List Lt) : ∀ k, (plF L k).Nodup
  | 0 => List.nodup_nil
  | k + 1 => by
    have ih := nodup_plF L k
    unfold plF
    split
    · refine List.pairwise_append.2 ⟨ih, List.pairwise_singleton _ _, fun a ha b hb => ?_⟩
      rw [List.mem_singleton] at hb
      have := (mem_plF.1 ha).1
      omega
    · exact ih
theorem mem_plL {L : List Lt} {i : Nat} : i ∈ plL L ↔ i < L.length ∧ ratedB (L.getD i ltZ) = true := by
  rw [(pl_perm L).mem_iff]
  exact mem_plF
theorem nodup_plL (L : List Lt) : (plL L).Nodup := (pl_perm L).nodup_iff.2 (nodup_plF L _)
theorem insAt_spec (L : List Lt) (s : List Nat) (x : Nat) : ∀ k, (∀ i, insAt L s x k ≤ i → i < k → dear (L.getD (s.getD i 0) ltZ) (L.getD x ltZ) = true) ∧ (0 < insAt L s x k → dear (L.getD (s.getD (insAt L s x k - 1) 0) ltZ) (L.getD x ltZ) = false)
  | 0 => ⟨fun i _ h => by omega, fun h => by simp [insAt] at h⟩
  | k + 1 => by
    obtain ⟨h1, h2⟩ := insAt_spec L s x k
    unfold insAt
    by_cases h : dear (L.getD (s.getD k 0) ltZ) (L.getD x ltZ) = true
    · rw [if_pos h]
      refine ⟨fun i q1 q2 => ?_, h2⟩
      by_cases e : i = k
      · subst e; exact h
      · exact h1 i q1 (by omega)
    · rw [if_neg h]
      exact ⟨fun i q1 q2 => by omega, fun _ => by simpa using h⟩
abbrev RaLe (L : List Lt) (a b : Nat) : Prop := (L.getD a ltZ).c * (L.getD b ltZ).v ≤ (L.getD b ltZ).c * (L.getD a ltZ).v
theorem ra_trans {L : List Lt} {a b c : Nat} (ha : ratedB (L.getD a ltZ) = true) (hb : ratedB (L.getD b ltZ) = true) (hc : ratedB (L.getD c ltZ) = true) (h1 : RaLe L a b) (h2 : RaLe L b c) : RaLe L a c :=
  rate_trans (ratedB_iff.1 hb).1 (Int.le_of_lt (ratedB_iff.1 ha).1) (Int.le_of_lt (ratedB_iff.1 hc).1) h1 h2
theorem nat_at {s : List Nat} {i : Nat} (h : i < s.length) : s.getD i 0 ∈ s := by
  rw [List.getD_eq_getElem?_getD, List.getElem?_eq_getElem h]; exact List.getElem_mem h
theorem ins_sorted {L : List Lt} {s : List Nat} {x : Nat} (hr : ∀ i ∈ s, ratedB (L.getD i ltZ) = true) (hx : ratedB (L.getD x ltZ) = true) (h : s.Pairwise (RaLe L)) : (ins L s x).Pairwise (RaLe L) := by
  obtain ⟨h1, h2⟩ := insAt_spec L s x s.length
  have hle := insAt_le L s x s.length
  unfold ins
  generalize insAt L s x s.length = j at *
  have hs : (s.take j ++ s.drop j).Pairwise (RaLe L) := by rw [List.take_append_drop]; exact h
  obtain ⟨p1, p2, p3⟩ := List.pairwise_append.1 hs
  have hdrop : ∀ b ∈ s.drop j, RaLe L x b := fun b hb => by
    obtain ⟨i, hi, rfl⟩ := List.getElem_of_mem hb
    rw [List.length_drop] at hi
    rw [List.getElem_drop]
    have := h1 (j + i) (by omega) (by omega)
    rw [List.getD_eq_getElem?_getD (l := s), List.getElem?_eq_getElem (by omega), Option.getD_some] at this
    exact Int.le_of_lt ((dear_iff (hr _ (List.getElem_mem _)) hx).1 this)
  have htake : ∀ a ∈ s.take j, RaLe L a x := fun a ha => by
    obtain ⟨i, hi, rfl⟩ := List.getElem_of_mem ha
    rw [List.length_take] at hi
    rw [List.getElem_take]
    have hj : 0 < j := by omega
    have hl := h2 hj
    rw [List.getD_eq_getElem?_getD (l := s), List.getElem?_eq_getElem (by omega), Option.getD_some] at hl
    have hlast : RaLe L s[j - 1] x := by
      have := mt (dear_iff (hr _ (List.getElem_mem (show j - 1 < s.length by omega))) hx).2 (by rw [hl]; decide)
      exact Int.le_of_not_gt this
    by_cases e : i = j - 1
    · subst e; exact hlast
    · exact ra_trans (hr _ (List.getElem_mem _)) (hr _ (List.getElem_mem _)) hx (List.pairwise_iff_getElem.1 h i (j - 1) (by omega) (by omega) (by omega)) hlast
  refine List.pairwise_append.2 ⟨p1, List.pairwise_cons.2 ⟨hdrop, p2⟩, fun a ha b hb => ?_⟩
  rcases List.mem_cons.1 hb with rfl | hb
  · exact htake a ha
  · exact p3 a ha b hb
theorem mem_sqTo {L : List Lt} {q : List Nat} {i : Nat} : ∀ {k : Nat}, k ≤ q.length → i ∈ sqTo L q k → i ∈ q
  | 0, _, h => by cases h
  | k + 1, hk, h => by
    rcases mem_ins.1 h with h | rfl
    · exact mem_sqTo (k := k) (by omega) h
    · exact nat_at (by omega)
theorem sq_sorted {L : List Lt} {q : List Nat} (hq : ∀ i ∈ q, ratedB (L.getD i ltZ) = true) : ∀ k, k ≤ q.length → (sqTo L q k).Pairwise (RaLe L)
  | 0, _ => List.Pairwise.nil
  | k + 1, h => ins_sorted (fun i hi => hq i (mem_sqTo (k := k) (by omega) hi)) (hq _ (nat_at (by omega))) (sq_sorted hq k (by omega))
section
variable {L : List Lt} {C : List Int} {n : Int}
theorem pl_lt {j : Nat} (h : j < (plL L).length) : (plL L).getD j 0 < L.length := (mem_plL.1 (nat_at h)).1
theorem mo_len (pl : List Nat) : (moM L pl).length = pl.length := List.length_map _
theorem mo_at (pl : List Nat) {j : Nat} (h : j < pl.length) : (moM L pl).getD j ltZ = L.getD (pl.getD j 0) ltZ := by
  unfold moM
  rw [List.getD_eq_getElem?_getD, List.getElem?_map, List.getElem?_eq_getElem h, List.getD_eq_getElem?_getD (l := pl), List.getElem?_eq_getElem h]
  rfl
theorem so_pl (h : OkP L C n) : SoM (moM L (plL L)) := by
  refine ⟨fun x hx => ?_, ?_⟩
  · obtain ⟨i, hi, rfl⟩ := List.mem_map.1 hx
    obtain ⟨h1, h2⟩ := mem_plL.1 hi
    have h3 := ratedB_iff.1 h2
    have h4 := h.lot h1
    have := h.1.2.2
    unfold ltOk at h4
    exact ⟨h3.1, h3.2, by omega, by omega, by omega⟩
  · refine List.pairwise_map.2 ?_
    exact sq_sorted (fun i hi => (mem_plF.1 hi).2) _ (Nat.le_refl _)

/-! Sums over places. -/
def sumP (f : Nat → Int) : List Nat → Int
  | [] => 0
  | i :: l => f i + sumP f l
theorem sumP_perm {f : Nat → Int} {a b : List Nat} (h : a.Perm b) : sumP f a = sumP f b := by
  induction h with
  | nil => rfl
  | cons x _ ih => show f x + _ = f x + _; rw [ih]
  | swap x y l => show f y + (f x + _) = f x + (f y + _); omega
  | trans _ _ h1 h2 => exact h1.trans h2
theorem sumP_app (f : Nat → Int) (k : Nat) : ∀ l, sumP f (l ++ [k]) = sumP f l + f k
  | [] => by simp [sumP]
  | i :: l => by
    show f i + sumP f (l ++ [k]) = f i + sumP f l + f k
    rw [sumP_app f k l]; omega
theorem sumP_plF (f : Nat → Int) : ∀ k, sumP f (plF L k) = sumF (fun i => if ratedB (L.getD i ltZ) = true then f i else 0) k
  | 0 => rfl
  | k + 1 => by
    have ih := sumP_plF f k
    unfold plF
    show _ = sumF _ k + (if ratedB (L.getD k ltZ) = true then f k else 0)
    split
    · rw [sumP_app, ih]
    · rw [ih]; omega
theorem sumP_plL (f : Nat → Int) : sumP f (plL L) = sumF (fun i => if ratedB (L.getD i ltZ) = true then f i else 0) L.length := by rw [sumP_perm (pl_perm L), sumP_plF]
theorem pd_perm {a b : List Lt} (h : a.Perm b) : pdL a = pdL b := by
  induction h with
  | nil => rfl
  | cons x _ ih => show (x.u + 1) * _ = (x.u + 1) * _; rw [ih]
  | swap x y l => show (y.u + 1) * ((x.u + 1) * _) = (x.u + 1) * ((y.u + 1) * _); grind
  | trans _ _ h1 h2 => exact h1.trans h2
theorem pd_snoc (x : Lt) : ∀ l, pdL (l ++ [x]) = pdL l * (x.u + 1)
  | [] => by simp [pdL]
  | y :: l => by
    show (y.u + 1) * pdL (l ++ [x]) = (y.u + 1) * pdL l * (x.u + 1)
    rw [pd_snoc x l]; grind
theorem pd_plF (h : OkP L C n) : ∀ k, k ≤ L.length → 1 ≤ pdL (moM L (plF L k)) ∧ pdL (moM L (plF L k)) ≤ pdL (L.take k)
  | 0, _ => by simp [plF, moM, pdL]
  | k + 1, hk => by
    obtain ⟨i0, i1⟩ := pd_plF h k (by omega)
    have hu := (h.lot (k := k) (by omega)).1
    have e : pdL (L.take (k + 1)) = pdL (L.take k) * ((L.getD k ltZ).u + 1) := by
      rw [List.take_succ_eq_append_getElem (by omega), pd_snoc, List.getD_eq_getElem?_getD, List.getElem?_eq_getElem (by omega)]
      rfl
    rw [e]
    generalize hu1 : (L.getD k ltZ).u + 1 = a at *
    have ha : 1 ≤ a := by omega
    have h3 : pdL (moM L (plF L k)) ≤ pdL (L.take k) * a := by
      have : pdL (L.take k) * 1 ≤ pdL (L.take k) * a := Int.mul_le_mul_of_nonneg_left ha (by omega)
      omega
    unfold plF
    split
    · have e2 : pdL (moM L (plF L k ++ [k])) = pdL (moM L (plF L k)) * a := by
        unfold moM
        rw [List.map_append, List.map_singleton, pd_snoc, hu1]
      rw [e2]
      have q1 : pdL (moM L (plF L k)) * a ≤ pdL (L.take k) * a := Int.mul_le_mul_of_nonneg_right i1 (by omega)
      have q2 : pdL (moM L (plF L k)) * 1 ≤ pdL (moM L (plF L k)) * a := Int.mul_le_mul_of_nonneg_left ha (by omega)
      omega
    · exact ⟨i0, h3⟩
theorem pd_pl (h : OkP L C n) : pdA (moM L (plL L)) 0 ≤ pdL L := by
  have := (pd_plF h L.length (Nat.le_refl _)).2
  rw [List.take_length] at this
  unfold pdA
  rw [List.drop_zero, pd_perm (show (moM L (plL L)).Perm (moM L (plF L L.length)) from (pl_perm L).map _)]
  exact this

/-! What a choice leaves, group by group. -/
def gMs : List Lt → (Nat → Int) → Nat → Int
  | [], _, _ => 0
  | x :: M, t, g => (if x.g.toNat = g then t 0 * x.v else 0) + gMs M (fun i => t (i + 1)) g
theorem gMs_nn : ∀ (M : List Lt) (t : Nat → Int) (g : Nat), (∀ x ∈ M, goL x) → TkM M t → 0 ≤ gMs M t g
  | [], _, _, _, _ => Int.le_refl _
  | x :: M, t, g, hM, ht => by
    obtain ⟨⟨k0, k1⟩, ht'⟩ := tkM_cons ht
    have ih := gMs_nn M (fun i => t (i + 1)) g (fun y hy => hM y (List.mem_cons_of_mem _ hy)) ht'
    have := Int.mul_nonneg k0 (Int.le_of_lt (hM x List.mem_cons_self).1)
    show 0 ≤ (if x.g.toNat = g then t 0 * x.v else 0) + _
    split <;> omega
theorem fn_left : ∀ (M : List Lt) (s : Sg) (t : Nat → Int), okS s → (∀ x ∈ M, goL x) → TkM M t → (fnS s M t).l = s.l - sumF (fun g => min (s.r.getD g 0) (gMs M t g)) 8
  | [], s, t, hs, _, _ => by
    have : sumF (fun g => min (s.r.getD g 0) (gMs [] t g)) 8 = 0 := sumF_zero fun g hg => by
      have := hs.2 g hg
      show min (s.r.getD g 0) 0 = 0
      omega
    rw [this]
    show s.l = s.l - 0
    omega
  | x :: M, s, t, hs, hM, ht => by
    obtain ⟨⟨k0, k1⟩, ht'⟩ := tkM_cons ht
    have hx := hM x List.mem_cons_self
    have hM' : ∀ y ∈ M, goL y := fun y hy => hM y (List.mem_cons_of_mem _ hy)
    have ih := fn_left M (wiS s x (t 0)) (fun i => t (i + 1)) (wi_ok hs hx k0) hM' ht'
    have hgi : x.g.toNat < 8 := by have := hx.2.2.2; omega
    have hrm := hs.2 _ hgi
    have hkv := Int.mul_nonneg k0 (Int.le_of_lt hx.1)
    have hG := gMs_nn M (fun i => t (i + 1)) x.g.toNat hM' ht'
    have e := sumF_one (f := fun g => min ((wiS s x (t 0)).r.getD g 0) (gMs M (fun i => t (i + 1)) g)) (g := fun g => min (s.r.getD g 0) (gMs (x :: M) t g)) (i := x.g.toNat) hgi (fun j hj hn => by
      show min ((s.r.set x.g.toNat _).getD j 0) _ = min (s.r.getD j 0) ((if x.g.toNat = j then t 0 * x.v else 0) + gMs M _ j)
      rw [set_at _ _ _ _ (by have := hs.1; omega), if_neg hn, if_neg (fun q => hn q.symm), Int.zero_add])
    have e1 : (wiS s x (t 0)).r.getD x.g.toNat 0 = rmS s x - gnS s x (t 0) := by
      show (s.r.set x.g.toNat _).getD x.g.toNat 0 = _
      rw [set_at _ _ _ _ (by have := hs.1; omega), if_pos rfl]
    have e2 : gMs (x :: M) t x.g.toNat = t 0 * x.v + gMs M (fun i => t (i + 1)) x.g.toNat := by
      show (if x.g.toNat = x.g.toNat then t 0 * x.v else 0) + _ = _
      rw [if_pos rfl]
    show (fnS (wiS s x (t 0)) M _).l = _
    rw [ih, e]
    simp only [e1, e2]
    show s.l - gnS s x (t 0) - _ = _
    unfold gnS rmS
    omega
/-- the rooms that the first k groups have. -/
def rmTo (C : List Int) (n : Int) (k : Nat) : List Int := (List.range 8).map fun g => if g < k then (if C.getD g 0 = 0 then n else C.getD g 0) else 0
def noS (C : List Int) (n : Int) : Sg := ⟨0, n, rmTo C n C.length⟩
theorem rmTo_at (C : List Int) (n : Int) (k : Nat) {g : Nat} (h : g < 8) : (rmTo C n k).getD g 0 = if g < k then (if C.getD g 0 = 0 then n else C.getD g 0) else 0 := by
  unfold rmTo
  rw [List.getD_eq_getElem?_getD, List.getElem?_map, List.getElem?_range h]
  rfl
theorem rmTo_len (C : List Int) (n : Int) (k : Nat) : (rmTo C n k).length = 8 := by unfold rmTo; rw [List.length_map, List.length_range]
theorem rmTo_set (C : List Int) (n : Int) {k : Nat} (h : k < 8) : (rmTo C n k).set k (if C.getD k 0 = 0 then n else C.getD k 0) = rmTo C n (k + 1) := by
  refine List.ext_getElem (by rw [List.length_set, rmTo_len, rmTo_len]) fun g h1 h2 => ?_
  rw [rmTo_len] at h2
  have e1 := set_at (rmTo C n k) k g (if C.getD k 0 = 0 then n else C.getD k 0) (by rw [rmTo_len]; exact h)
  have e2 := rmTo_at C n (k + 1) h2
  rw [List.getD_eq_getElem?_getD, List.getElem?_eq_getElem h1, Option.getD_some] at e1
  rw [List.getD_eq_getElem?_getD, List.getElem?_eq_getElem (by rw [rmTo_len]; exact h2), Option.getD_some] at e2
  rw [e1, e2, rmTo_at C n k h2]
  by_cases q : g = k
  · subst q; rw [if_pos rfl, if_pos (show g < g + 1 by omega)]
  · rw [if_neg q]
    by_cases q2 : g < k
    · rw [if_pos q2, if_pos (show g < k + 1 by omega)]
    · rw [if_neg q2, if_neg (show ¬ g < k + 1 by omega)]
theorem no_ok (h : OkP L C n) : okS (noS C n) := by
  refine ⟨rmTo_len _ _ _, fun g hg => ?_⟩
  show 0 ≤ (rmTo C n C.length).getD g 0
  rw [rmTo_at C n _ hg]
  have hn := h.2.2.2.1
  split
  · rename_i q
    have := (h.cap q).1
    split <;> omega
  · omega
/-- a take of the problem, as the search has it. -/
def tkT (L : List Lt) (T : List Int) (j : Nat) : Int := T.getD ((plL L).getD j 0) 0
theorem tk_tkM {T : List Int} (ht : TkOk L T) : TkM (moM L (plL L)) (tkT L T) := fun j hj => by
  rw [mo_len] at hj
  rw [mo_at _ hj]
  exact ht.2 _ (pl_lt hj)
theorem gMs_sum (T : List Int) (g : Nat) : ∀ (pl : List Nat), gMs (moM L pl) (fun j => T.getD (pl.getD j 0) 0) g = sumP (fun i => if (L.getD i ltZ).g.toNat = g then T.getD i 0 * (L.getD i ltZ).v else 0) pl
  | [] => rfl
  | i :: pl => by
    have ih := gMs_sum T g pl
    show (if (L.getD i ltZ).g.toNat = g then T.getD i 0 * (L.getD i ltZ).v else 0) + gMs (moM L pl) (fun j => T.getD (pl.getD j 0) 0) g = _
    rw [ih]
    rfl
theorem coM_sum (T : List Int) : ∀ (pl : List Nat), coM (moM L pl) (fun j => T.getD (pl.getD j 0) 0) = sumP (coF L T) pl
  | [] => rfl
  | i :: pl => by
    have ih := coM_sum T pl
    show T.getD i 0 * (L.getD i ltZ).c + coM (moM L pl) (fun j => T.getD (pl.getD j 0) 0) = coF L T i + _
    rw [ih]
    rfl
theorem not_rated (h : OkP L C n) {T : List Int} (ht : TkOk L T) {i : Nat} (hi : i < L.length) (hr : ¬ ratedB (L.getD i ltZ) = true) : T.getD i 0 * (L.getD i ltZ).v = 0 := by
  have hl := h.lot hi
  have ht1 := ht.2 i hi
  by_cases e : (L.getD i ltZ).v = 0
  · rw [e, Int.mul_zero]
  · have : ¬ (0 < (L.getD i ltZ).v ∧ 0 < (L.getD i ltZ).u) := fun z => hr (ratedB_iff.2 z)
    have hv := hl.2.1.1
    have : T.getD i 0 = 0 := by omega
    rw [this, Int.zero_mul]
theorem gMs_gs (h : OkP L C n) {T : List Int} (ht : TkOk L T) (g : Nat) : gMs (moM L (plL L)) (tkT L T) g = gs L T (g : Int) L.length := by
  have e := gMs_sum (L := L) T g (plL L)
  rw [sumP_plL] at e
  refine e.trans (sumF_same fun i hi => ?_)
  have hg := (h.lot hi).2.2.2.1
  unfold gsF
  by_cases hr : ratedB (L.getD i ltZ) = true
  · rw [if_pos hr]
    by_cases q : (L.getD i ltZ).g = (g : Int)
    · rw [if_pos (by omega), if_pos q]
    · rw [if_neg (by omega), if_neg q]
  · rw [if_neg hr, not_rated h ht hi hr, ite_self]
theorem lk_l (h : OkP L C n) {T : List Int} (ht : TkOk L T) : (fnS (noS C n) (moM L (plL L)) (tkT L T)).l ≤ 0 ↔ n ≤ wo L C T := by
  have hC8 := h.1.2.2
  have e : sumF (fun g => min ((noS C n).r.getD g 0) (gMs (moM L (plL L)) (tkT L T) g)) 8 = sumF (fun g => if g < C.length then min (if C.getD g 0 = 0 then n else C.getD g 0) (gs L T (g : Int) L.length) else 0) 8 := sumF_same fun g hg => by
    show min ((rmTo C n C.length).getD g 0) _ = _
    rw [rmTo_at C n _ hg, gMs_gs h ht]
    have := gs_bd h ht (g : Int) (Nat.le_refl _)
    split
    · rfl
    · omega
  have e2 : ∀ k, C.length ≤ k → sumF (fun g => if g < C.length then min (if C.getD g 0 = 0 then n else C.getD g 0) (gs L T (g : Int) L.length) else 0) k = sumF (fun g => min (if C.getD g 0 = 0 then n else C.getD g 0) (gs L T (g : Int) L.length)) C.length := by
    intro k
    induction k with
    | zero => intro hk; rw [show C.length = 0 by omega]; rfl
    | succ k ih =>
      intro hk
      show sumF _ k + (if k < C.length then _ else 0) = _
      by_cases q : k < C.length
      · have : C.length = k + 1 := by omega
        rw [if_pos q, this]
        show _ = sumF _ k + _
        congr 1
        exact sumF_same fun i hi => if_pos (by omega)
      · rw [if_neg q, ih (by omega)]; omega
  rw [fn_left _ _ _ (no_ok h) (so_pl h).1 (tk_tkM ht), e, e2 8 hC8]
  have hn0 : (noS C n).l = n := rfl
  rw [hn0]
  have hle : ∀ j, j < C.length → min (if C.getD j 0 = 0 then n else C.getD j 0) (gs L T (j : Int) L.length) ≤ woF L C T j := fun j hj => by
    unfold woF capd
    split <;> omega
  have hsum := sumF_le hle
  have hgs := fun j => gs_bd h ht (j : Int) (Nat.le_refl L.length)
  have hcap := fun j (hj : j < C.length) => h.cap hj
  have hnn := h.2.2.2.1
  have hw : sumF (woF L C T) C.length = wo L C T := rfl
  constructor
  · intro q; omega
  · intro q
    by_cases hex : ∃ j, j < C.length ∧ C.getD j 0 = 0 ∧ n ≤ gs L T (j : Int) L.length
    · obtain ⟨j, hj, hz, hg⟩ := hex
      have : n ≤ sumF (fun g => min (if C.getD g 0 = 0 then n else C.getD g 0) (gs L T (g : Int) L.length)) C.length := by
        have h1 := sumF_one (f := fun g => if g = j then 0 else min (if C.getD g 0 = 0 then n else C.getD g 0) (gs L T (g : Int) L.length)) (g := fun g => min (if C.getD g 0 = 0 then n else C.getD g 0) (gs L T (g : Int) L.length)) hj (fun i hi hne => if_neg hne)
        have h2 : 0 ≤ sumF (fun g => if g = j then 0 else min (if C.getD g 0 = 0 then n else C.getD g 0) (gs L T (g : Int) L.length)) C.length := sumF_nn fun i hi => by
          have := (hgs i).1
          have := (hcap i hi).1
          split
          · omega
          · split <;> omega
        simp only [if_pos, hz] at h1
        omega
      omega
    · have : sumF (fun g => min (if C.getD g 0 = 0 then n else C.getD g 0) (gs L T (g : Int) L.length)) C.length = sumF (woF L C T) C.length := sumF_same fun j hj => by
        unfold woF capd
        by_cases hz : C.getD j 0 = 0
        · rw [if_pos hz, if_pos hz]
          have : ¬ n ≤ gs L T (j : Int) L.length := fun q => hex ⟨j, hj, hz, q⟩
          omega
        · rw [if_neg hz, if_neg hz]
          omega
      omega
theorem lk_c (h : OkP L C n) {T : List Int} (ht : TkOk L T) : (fnS (noS C n) (moM L (plL L)) (tkT L T)).c ≤ co L T := by
  rw [fn_cost]
  have e := coM_sum (L := L) T (plL L)
  rw [sumP_plL] at e
  have e' : coM (moM L (plL L)) (tkT L T) = sumF (fun i => if ratedB (L.getD i ltZ) = true then coF L T i else 0) L.length := e
  rw [e']
  have : sumF (fun i => if ratedB (L.getD i ltZ) = true then coF L T i else 0) L.length ≤ co L T := sumF_le fun i hi => by
    have := (coF_bd h ht hi).1
    split <;> omega
  show 0 + _ ≤ _
  omega
theorem lk_ce {T : List Int} (hz : ∀ i, i < L.length → ¬ ratedB (L.getD i ltZ) = true → T.getD i 0 = 0) : (fnS (noS C n) (moM L (plL L)) (tkT L T)).c = co L T := by
  rw [fn_cost]
  have e := coM_sum (L := L) T (plL L)
  rw [sumP_plL] at e
  have e' : coM (moM L (plL L)) (tkT L T) = sumF (fun i => if ratedB (L.getD i ltZ) = true then coF L T i else 0) L.length := e
  rw [e']
  have : sumF (fun i => if ratedB (L.getD i ltZ) = true then coF L T i else 0) L.length = co L T := sumF_same fun i hi => by
    by_cases hr : ratedB (L.getD i ltZ) = true
    · rw [if_pos hr]
    · rw [if_neg hr]
      unfold coF
      rw [hz i hi hr, Int.zero_mul]
  show 0 + _ = _
  omega

/-! What is kept. -/
theorem kp_len (pl : List Nat) (st : List Br) (m : Nat) : ∀ k, (kpL pl st m k).length = m
  | 0 => List.length_replicate
  | k + 1 => by rw [kpL, List.length_set]; exact kp_len pl st m k
theorem kp_out (pl : List Nat) (st : List Br) (m i : Nat) (hpl : ∀ j, j < pl.length → pl.getD j 0 < m) : ∀ k, k ≤ pl.length → (∀ j, j < k → pl.getD j 0 ≠ i) → (kpL pl st m k).getD i 0 = 0
  | 0, _, _ => zeros_at m i
  | k + 1, hk, h => by
    rw [kpL, set_at _ _ _ _ (by rw [kp_len]; exact hpl k (by omega)), if_neg (fun q => h k (by omega) q.symm)]
    exact kp_out pl st m i hpl k (by omega) (fun j hj => h j (by omega))
theorem kp_in (pl : List Nat) (st : List Br) (m : Nat) (hpl : ∀ j, j < pl.length → pl.getD j 0 < m) (hnd : ∀ i j, i < pl.length → j < pl.length → pl.getD i 0 = pl.getD j 0 → i = j) : ∀ k, k ≤ pl.length → ∀ j, j < k → (kpL pl st m k).getD (pl.getD j 0) 0 = (st.getD j brZ).u
  | 0, _, j, h => by omega
  | k + 1, hk, j, h => by
    rw [kpL, set_at _ _ _ _ (by rw [kp_len]; exact hpl k (by omega))]
    by_cases e : j = k
    · subst e; rw [if_pos rfl]
    · rw [if_neg (fun q => e (hnd j k (by omega) (by omega) q))]
      exact kp_in pl st m hpl hnd k (by omega) j (by omega)
theorem pl_inj {i j : Nat} (hi : i < (plL L).length) (hj : j < (plL L).length) (h : (plL L).getD i 0 = (plL L).getD j 0) : i = j := by
  rw [List.getD_eq_getElem?_getD, List.getD_eq_getElem?_getD, List.getElem?_eq_getElem hi, List.getElem?_eq_getElem hj] at h
  have hp := List.pairwise_iff_getElem.1 (nodup_plL L)
  simp only [Option.getD_some] at h
  rcases Nat.lt_trichotomy i j with q | q | q
  · exact absurd h (hp i j hi hj q)
  · exact q
  · exact absurd h.symm (hp j i hj hi q)
theorem st_units {s0 : Sg} {M : List Lt} (hM : ∀ x ∈ M, goL x) (h0 : okS s0) : ∀ {P : List Br}, StS s0 M P → P.length ≤ M.length ∧ ∀ j, j < P.length → 0 ≤ (P.getD j brZ).u ∧ (P.getD j brZ).u ≤ (M.getD j ltZ).u := by
  have H : ∀ m : Nat, ∀ P : List Br, P.length = m → StS s0 M P → P.length ≤ M.length ∧ ∀ j, j < P.length → 0 ≤ (P.getD j brZ).u ∧ (P.getD j brZ).u ≤ (M.getD j ltZ).u := by
    intro m
    induction m with
    | zero => intro P hP _; rw [List.eq_nil_of_length_eq_zero hP]; exact ⟨Nat.zero_le _, fun j hj => by simp at hj⟩
    | succ m ih =>
      intro P hP hS
      obtain ⟨Q, b, rfl⟩ := snoc_of (st := P) (by intro q; rw [q] at hP; simp at hP)
      obtain ⟨h1, h2, h3⟩ := (stS_snoc b Q s0 M).1 hS
      obtain ⟨_, h4⟩ := ih Q (by simpa using hP) h1
      refine ⟨by simp; omega, fun j hj => ?_⟩
      by_cases e : j < Q.length
      · rw [br_left Q [b] e]; exact h4 j e
      · have : j = Q.length := by simp at hj; omega
        subst this
        rw [br_at]
        have := us_nn (go_at hM h2) (en_ok Q s0 M h0 hM h1) h3.2.1
        have := h3.2.2
        omega
  intro P h
  exact H _ P rfl h
def GoT (L : List Lt) (C : List Int) (n : Int) (T : List Int) (c : Int) : Prop := TkOk L T ∧ n ≤ wo L C T ∧ c = co L T
theorem kept (h : OkP L C n) (P : List Br) (best : List Int) (cost : Int) (hg : GoT L C n best cost) (hS : StS (noS C n) (moM L (plL L)) P) (hlen : P.length ≤ (moM L (plL L)).length) (hl : (enS (noS C n) (moM L (plL L)) P).l ≤ 0) :
    GoT L C n (kpL (plL L) P best.length P.length) (enS (noS C n) (moM L (plL L)) P).c := by
  have hbl := hg.1.1
  rw [hbl]
  have hM := (so_pl h).1
  obtain ⟨_, hu⟩ := st_units hM (no_ok h) hS
  have hpl : ∀ j, j < (plL L).length → (plL L).getD j 0 < L.length := fun j hj => pl_lt hj
  rw [mo_len] at hlen
  have hin := kp_in (plL L) P L.length hpl (fun i j hi hj => pl_inj hi hj) P.length hlen
  have hout := fun i => kp_out (plL L) P L.length i hpl P.length hlen
  have hT : TkOk L (kpL (plL L) P L.length P.length) := by
    refine ⟨kp_len _ _ _ _, fun i hi => ?_⟩
    by_cases e : ∃ j, j < P.length ∧ (plL L).getD j 0 = i
    · obtain ⟨j, hj, rfl⟩ := e
      rw [hin j hj]
      have := hu j hj
      rwa [mo_at _ (by omega)] at this
    · rw [hout i (fun j hj q => e ⟨j, hj, q⟩)]
      have := (h.lot hi).1
      omega
  have hz : ∀ i, i < L.length → ¬ ratedB (L.getD i ltZ) = true → (kpL (plL L) P L.length P.length).getD i 0 = 0 := fun i hi hr => hout i fun j hj q => hr (by
    have := (mem_plL.1 (nat_at (show j < (plL L).length by omega))).2
    rwa [q] at this)
  have hfs := fn_stack P (noS C n) (moM L (plL L)) (tkT L (kpL (plL L) P L.length P.length)) (by rw [mo_len]; exact hlen) (fun j hj => hin j hj)
  obtain ⟨z1, z2⟩ := fn_zero ((moM L (plL L)).drop P.length) (enS (noS C n) (moM L (plL L)) P) (fun i => tkT L (kpL (plL L) P L.length P.length) (i + P.length)) (en_ok P _ _ (no_ok h) hM hS) (fun x hx => hM x (List.mem_of_mem_drop hx)) (fun j hj => by
    rw [List.length_drop, mo_len] at hj
    refine hout _ fun i hi q => ?_
    have := pl_inj (L := L) (i := i) (j := j + P.length) (by omega) (by omega) q
    omega)
  rw [← hfs] at z1 z2
  refine ⟨hT, (lk_l h hT).1 (by omega), ?_⟩
  rw [← z1]
  exact lk_ce hz
theorem gAll_done {o : List Nat} : ∀ {s : List Int × Int}, ¬ s.2 < n → gAll L C n o s = s := by
  induction o with
  | nil => intro s _; rfl
  | cons i o ih =>
    intro s h
    show gAll L C n o (gl L C n i 1000 s) = s
    rw [gl_stop (fun q => h q.1)]
    exact ih h
end
/-- the choice ahead of all search; what it costs. -/
def fcL (L : List Lt) (C : List Int) (n : Int) (b : Bool) : List Int := if b = true then (gR L C n).1 else full L
def boR (L : List Lt) (C : List Int) (n : Int) (b : Bool) (bud : Int) : Se × Bool :=
  if mbC (noS C n) (moM L (plL L)) (co L (fcL L C n b)) = true then
    ruS (moM L (plL L)) (plL L) bud (potS (trA (moM L (plL L))) 1 [puB (noS C n) ((moM L (plL L)).getD 0 ltZ)]).toNat ⟨[puB (noS C n) ((moM L (plL L)).getD 0 ltZ)], fcL L C n b, co L (fcL L C n b), 0⟩
  else (⟨[], fcL L C n b, co L (fcL L C n b), 0⟩, true)
section
variable {L : List Lt} {C : List Int} {n : Int}
/-- what is found. -/
structure Found20 (L : List Lt) (C : List Int) (n : Int) (bud : Int) (r : Se × Bool) (c0 : Int) : Prop where
  tk : TkOk L r.1.best
  fits : n ≤ wo L C r.1.best
  cost : r.1.cost = co L r.1.best
  look : 0 ≤ r.1.looked ∧ r.1.looked ≤ bud
  sure : r.2 = true → ∀ T, TkOk L T → n ≤ wo L C T → r.1.cost ≤ co L T
  many : r.2 = false → bud < pdL L
  less : r.1.cost ≤ c0
theorem sure_all (h : OkP L C n) {K : Int} (hn : NoB (noS C n) (moM L (plL L)) K) : ∀ T, TkOk L T → n ≤ wo L C T → K ≤ co L T := fun T hT hf =>
  Int.le_trans (hn (tkT L T) (tk_tkM hT) ((lk_l h hT).2 hf)) (lk_c h hT)
/-- what is chosen first, where b tells whether greed comes to enough. -/
theorem fc_good (h : OkP L C n) (hm : n ≤ wo L C (full L)) (b : Bool) (hb : b = !decide ((gR L C n).2 < n)) : GoT L C n (fcL L C n b) (co L (fcL L C n b)) := by
  unfold fcL
  by_cases hg : (gR L C n).2 < n
  · rw [hb, decide_eq_true hg, if_neg (by decide)]
    exact ⟨tk_full h, hm, rfl⟩
  · rw [hb, decide_eq_false hg, if_pos (by decide)]
    exact ⟨(ginv_R h).1, (greedy_fits h hg).1, rfl⟩
theorem si_start {s0 : Sg} {M : List Lt} {bud : Int} {G : List Int → Int → Prop} {fc : List Int} {c0 : Int} (hM : SoM M) (h0 : okS s0) (hl : 0 < s0.l) (hlen : 0 < M.length) (hbud : 0 ≤ bud) (hg : G fc c0) : SI s0 M bud G ⟨[puB s0 (M.getD 0 ltZ)], fc, c0, 0⟩ := by
  cases M with
  | nil => simp at hlen
  | cons x M =>
    have hx := hM.1 x List.mem_cons_self
    have hns := us_nn hx h0 hl
    have eu : (puB s0 x).u = usS s0 x + 1 := rfl
    have hW := pdA_pos hM.1 1
    have hs := pdA_step (M := x :: M) (k := 0) hlen
    have hml : (usS s0 x + 1) * pdA (x :: M) 1 ≤ (x.u + 1) * pdA (x :: M) 1 := Int.mul_le_mul_of_nonneg_right (by omega) (by omega)
    refine ⟨.inr ⟨[], puB s0 x, rfl, trivial, hlen, rfl, hl, rfl, by rw [eu]; omega, Int.le_refl _⟩, fun K hK htd => nob_push hM h0 hl htd.1, hg, ⟨Int.le_refl _, hbud⟩, ?_⟩
    have hp := pot_snoc (pdA (x :: M)) 0 [] (puB s0 x)
    have hz : potS (pdA (x :: M)) 0 [] = 0 := rfl
    have hp' : potS (pdA (x :: M)) 0 [puB s0 x] = potS (pdA (x :: M)) 0 [] + ((puB s0 x).u * pdA (x :: M) 1 + 0) := hp
    show (0 : Int) + potS (pdA (x :: M)) 0 [puB s0 x] ≤ pdA (x :: M) 0
    rw [hp', hz, eu]
    have hs' : pdA (x :: M) 0 = (x.u + 1) * pdA (x :: M) 1 := hs
    omega
theorem bo_found (h : OkP L C n) (hm : n ≤ wo L C (full L)) (b : Bool) (hb : b = !decide ((gR L C n).2 < n)) {bud : Int} (hbud : 0 ≤ bud) : Found20 L C n bud (boR L C n b bud) (co L (fcL L C n b)) := by
  have hgood := fc_good h hm b hb
  have hM := so_pl h
  have h0 := no_ok h
  unfold boR
  by_cases hc : mbC (noS C n) (moM L (plL L)) (co L (fcL L C n b)) = true
  · rw [if_pos hc]
    have hl : 0 < (noS C n).l := by
      apply Decidable.byContradiction
      intro hh
      have hn0 : n ≤ 0 := by show n ≤ 0; have : (noS C n).l = n := rfl; omega
      have e1 : gR L C n = gSt L := gAll_done (by show ¬ (0 : Int) < n; omega)
      have e2 : fcL L C n b = List.replicate L.length 0 := by
        unfold fcL
        rw [hb, e1, if_pos (by show (!decide ((0 : Int) < n)) = true; simp; omega)]
        rfl
      have e3 : co L (List.replicate L.length 0) = 0 := sumF_zero fun i _ => by unfold coF; rw [zeros_at, Int.zero_mul]
      unfold mbC at hc
      rw [e2, e3, le_done _ (by show (noS C n).l ≤ 0; omega)] at hc
      simp [noS] at hc
    have hlen : 0 < (moM L (plL L)).length := by
      apply Decidable.byContradiction
      intro hh
      have : moM L (plL L) = [] := List.eq_nil_of_length_eq_zero (by omega)
      rw [this] at hc
      unfold mbC leS at hc
      rw [decide_eq_false (by omega)] at hc
      simp at hc
    have hSI := si_start (bud := bud) (G := GoT L C n) hM h0 hl hlen hbud hgood
    have hf : potS (trA (moM L (plL L))) 1 [puB (noS C n) ((moM L (plL L)).getD 0 ltZ)] ≤ (((potS (trA (moM L (plL L))) 1 [puB (noS C n) ((moM L (plL L)).getD 0 ltZ)]).toNat : Nat) : Int) := Int.self_le_toNat _
    generalize (potS (trA (moM L (plL L))) 1 [puB (noS C n) ((moM L (plL L)).getD 0 ltZ)]).toNat = f at *
    generalize fcL L C n b = fc at *
    generalize co L fc = c0 at *
    have hre := ru_ends (pl := plL L) hM h0 (fun P best cost hg hS hlen hl => kept h P best cost hg hS hlen hl) f _ hSI hf
    generalize ruS (moM L (plL L)) (plL L) bud f ⟨[puB (noS C n) ((moM L (plL L)).getD 0 ltZ)], fc, c0, 0⟩ = r at *
    obtain ⟨r1, r2, r3, r4, r5⟩ := hre
    exact ⟨r1.1, r1.2.1, r1.2.2, r3, fun q => sure_all h (r4 q), fun q => Int.lt_of_lt_of_le (r5 q) (pd_pl h), r2⟩
  · rw [if_neg hc]
    exact ⟨hgood.1, hgood.2.1, hgood.2.2, ⟨Int.le_refl _, hbud⟩, fun _ => sure_all h (nob_no hM h0 (by simpa using hc)), fun q => (by simp at q), Int.le_refl _⟩
end
end Go.Proofs.YtmihpgccdknhfaaDoor
