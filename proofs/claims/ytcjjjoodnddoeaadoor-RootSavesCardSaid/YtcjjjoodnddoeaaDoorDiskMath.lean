/-
  A disk as plain data: what was flushed, what is pending (in the order of the sectors), what each call makes of it.
-/
import Derived.Test.YtcjjjoodnddoeaaDoorRet
import Derived.Maps.RangeWalk
import Derived.Lib.SlKeysI
namespace Go.Proofs.YtcjjjoodnddoeaaDoor
open Go Go.RowKit Go.Maps
set_option linter.unusedVariables false

structure Dk where
  n : Nat
  fl : Nat → List Int
  ps : List (Int × List Int)
  calls : Int
  armed : Int
  down : Bool

def secOk (xs : List Int) : Prop := xs.length = 128 ∧ ∀ x ∈ xs, 0 ≤ x ∧ x < 256
structure Dk.Ok (D : Dk) : Prop where
  n0 : 1 ≤ D.n
  n1 : D.n ≤ 8192
  fl : ∀ i, i < D.n → secOk (D.fl i)
  ps : ∀ p ∈ D.ps, 0 ≤ p.1 ∧ p.1 < D.n ∧ secOk p.2
  rising : D.ps.Pairwise (fun p q => p.1 < q.1)
  armed : -9223372036854775808 ≤ D.armed ∧ D.armed ≤ 9223372036854775807

def pget (ps : List (Int × List Int)) (i : Int) : Option (List Int) := (ps.find? (fun p => p.1 == i)).map (·.2)
def insP (x : Int × List Int) : List (Int × List Int) → List (Int × List Int)
  | [] => [x]
  | y :: r => if x.1 < y.1 then x :: y :: r else y :: insP x r
def putP (ps : List (Int × List Int)) (i : Int) (s : List Int) : List (Int × List Int) := insP (i, s) (ps.filter (fun p => !(p.1 == i)))

theorem mem_insP {x y : Int × List Int} : ∀ {l : List (Int × List Int)}, y ∈ insP x l ↔ y = x ∨ y ∈ l
  | [] => by simp [insP]
  | z :: r => by
    unfold insP
    split
    · simp
    · rw [List.mem_cons, mem_insP (l := r), List.mem_cons]
      constructor
      · rintro (h | h | h)
        · exact .inr (.inl h)
        · exact .inl h
        · exact .inr (.inr h)
      · rintro (h | h | h)
        · exact .inr (.inl h)
        · exact .inl h
        · exact .inr (.inr h)
theorem mem_putP {ps : List (Int × List Int)} {i : Int} {s : List Int} {y : Int × List Int} (h : y ∈ putP ps i s) : y = (i, s) ∨ y ∈ ps := by
  rcases mem_insP.1 h with h | h
  · exact .inl h
  · exact .inr (List.mem_filter.1 h).1
theorem insP_rising {x : Int × List Int} : ∀ {l : List (Int × List Int)}, l.Pairwise (fun p q => p.1 < q.1) → (∀ p ∈ l, p.1 ≠ x.1) → (insP x l).Pairwise (fun p q => p.1 < q.1)
  | [], _, _ => by simp [insP]
  | y :: r, h, hn => by
    obtain ⟨h1, h2⟩ := List.pairwise_cons.1 h
    unfold insP
    split
    · rename_i hlt
      refine List.pairwise_cons.2 ⟨fun z hz => ?_, h⟩
      rcases List.mem_cons.1 hz with rfl | hz
      · exact hlt
      · have := h1 z hz; omega
    · rename_i hlt
      have hne := hn y (by simp)
      refine List.pairwise_cons.2 ⟨fun z hz => ?_, insP_rising h2 fun p hp => hn p (by simp [hp])⟩
      rcases mem_insP.1 hz with rfl | hz
      · omega
      · exact h1 z hz
theorem putP_rising {ps : List (Int × List Int)} {i : Int} {s : List Int} (h : ps.Pairwise (fun p q => p.1 < q.1)) : (putP ps i s).Pairwise (fun p q => p.1 < q.1) :=
  insP_rising (h.filter _) fun p hp e => by simpa [e] using (List.mem_filter.1 hp).2
theorem rising_len : ∀ {l : List (Int × List Int)} (a b : Int), l.Pairwise (fun p q => p.1 < q.1) → (∀ p ∈ l, a ≤ p.1 ∧ p.1 < b) → a ≤ b → (l.length : Int) ≤ b - a
  | [], a, b, _, _, h => by simp; omega
  | x :: r, a, b, h, hb, hab => by
    obtain ⟨h1, h2⟩ := List.pairwise_cons.1 h
    have hx := hb x (by simp)
    have := rising_len (l := r) (x.1 + 1) b h2 (fun p hp => ⟨by have := h1 p hp; omega, (hb p (by simp [hp])).2⟩) (by omega)
    simp only [List.length_cons]
    omega
theorem Dk.Ok.len {D : Dk} (h : D.Ok) : D.ps.length ≤ D.n := by
  have := rising_len 0 D.n h.rising (fun p hp => ⟨(h.ps p hp).1, (h.ps p hp).2.1⟩) (by omega)
  omega

/-- what is pending, as a map's datum. -/
def dat (ps : List (Int × List Int)) : DataW (List Int) := .map (ps.map fun p => (.int .i64 p.1, .held p.2))
theorem dat_size (ps : List (Int × List Int)) : Maps.size (dat ps) = ps.length := by simp [dat, Maps.size]
theorem sameKey_i (a b : Int) : (Lit.int .i64 a).sameKey (.int .i64 b) = (a == b) := by
  simp only [Lit.sameKey, true_and]
  rfl
theorem dat_has (ps : List (Int × List Int)) (i : Int) : Maps.has (dat ps) (.int .i64 i) = (pget ps i).isSome := by
  simp only [dat, Maps.has_eq, List.any_map, pget, Option.isSome_map, List.isSome_find?]
  congr 1
  funext p
  exact sameKey_i p.1 i
theorem dat_atKey (ps : List (Int × List Int)) (i : Int) (z : DataW (List Int)) : (dat ps).atKey (.int .i64 i) z = ((pget ps i).map .held).getD z := by
  simp only [dat, DataW.atKey, List.find?_map, pget, Function.comp_def, sameKey_i]
  cases ps.find? (fun p => p.1 == i) <;> rfl
theorem dat_insert (x : Int × List Int) : ∀ l : List (Int × List Int), DataW.insert (Lit.int .i64 x.1, (.held x.2 : DataW (List Int))) (l.map fun p => (.int .i64 p.1, .held p.2)) = (insP x l).map fun p => (.int .i64 p.1, .held p.2)
  | [] => rfl
  | y :: r => by
    simp only [List.map_cons, DataW.insert, insP, Lit.before, decide_eq_true_eq]
    split
    · simp
    · rw [dat_insert x r]; simp
theorem dat_put (ps : List (Int × List Int)) (i : Int) (s : List Int) : (dat ps).put (.int .i64 i) (.held s) = dat (putP ps i s) := by
  simp only [dat, DataW.put, putP]
  rw [← dat_insert (i, s), List.filter_map]
  have e : ((fun p : Lit × DataW (List Int) => !p.1.sameKey (.int .i64 i)) ∘ fun p : Int × List Int => ((Lit.int .i64 p.1, DataW.held p.2) : Lit × DataW (List Int))) = fun p => !(p.1 == i) := by
    funext p
    simp only [Function.comp_apply, sameKey_i]
  rw [e]
theorem dat_keys (ps : List (Int × List Int)) : intKeys (dat ps) = ps.map (·.1) := by
  simp [dat, intKeys, Go.intOf]
theorem sorted_keys {ps : List (Int × List Int)} (h : ps.Pairwise (fun p q => p.1 < q.1)) {ss : List Int} (hp : ss.Perm (ps.map (·.1))) : ss.mergeSort leI = ps.map (·.1) := by
  rw [mergeSort_of_perm_i hp]
  refine List.mergeSort_of_pairwise ?_
  rw [List.pairwise_map]
  refine List.pairwise_iff_getElem.2 fun i j hi hj hij => ?_
  have := List.pairwise_iff_getElem.1 h i j hi hj hij
  simp only [leI, decide_eq_true_eq]
  omega

theorem pget_mem {ps : List (Int × List Int)} {i : Int} {s : List Int} (h : pget ps i = some s) : (i, s) ∈ ps := by
  unfold pget at h
  cases hf : ps.find? (fun p => p.1 == i) with
  | none => simp [hf] at h
  | some p =>
    simp only [hf, Option.map_some, Option.some.injEq] at h
    have h1 := List.find?_some hf
    have h2 := List.mem_of_find?_eq_some hf
    simp only [beq_iff_eq] at h1
    obtain ⟨a, b⟩ := p
    simp only at h h1
    subst h h1
    exact h2
theorem pget_at {ps : List (Int × List Int)} (h : ps.Pairwise (fun p q => p.1 < q.1)) {i : Int} {s : List Int} (hm : (i, s) ∈ ps) : pget ps i = some s := by
  cases hf : pget ps i with
  | none =>
    have : ps.find? (fun p => p.1 == i) = none := by simpa [pget] using hf
    have := List.find?_eq_none.1 this _ hm
    simp at this
  | some t =>
    have h2 := pget_mem hf
    congr 1
    by_cases e : (i, t) = (i, s)
    · simpa using e
    · refine absurd ?_ (show ¬ False from id)
      obtain ⟨a, ha, ea⟩ := List.getElem_of_mem hm
      obtain ⟨b, hb, eb⟩ := List.getElem_of_mem h2
      have hp := List.pairwise_iff_getElem.1 h
      rcases Nat.lt_trichotomy a b with hab | hab | hab
      · have := hp a b ha hb hab; rw [ea, eb] at this; simp at this
      · subst hab; rw [ea] at eb; exact e eb.symm
      · have := hp b a hb ha hab; rw [ea, eb] at this; simp at this
theorem pget_nil (i : Int) : pget [] i = none := rfl
theorem insP_find (x : Int × List Int) (i : Int) : ∀ l : List (Int × List Int), (∀ p ∈ l, p.1 ≠ x.1) → pget (insP x l) i = if x.1 = i then some x.2 else pget l i
  | [], _ => by
    by_cases h : x.1 = i <;> simp [insP, pget, h]
  | y :: r, hn => by
    have hy := hn y (by simp)
    unfold insP
    split
    · by_cases h : x.1 = i <;> simp [pget, h]
    · have ih := insP_find x i r (fun p hp => hn p (by simp [hp]))
      by_cases h : y.1 = i
      · have : ¬ x.1 = i := fun e => hy (h.trans e.symm)
        simp [pget, h, this]
      · have e1 : ∀ l, pget (y :: l) i = pget l i := fun l => by simp [pget, h]
        rw [e1, ih, e1]
theorem pget_put (ps : List (Int × List Int)) (i j : Int) (s : List Int) : pget (putP ps i s) j = if i = j then some s else pget ps j := by
  unfold putP
  rw [insP_find (i, s) j _ fun p hp e => by simpa [e] using (List.mem_filter.1 hp).2]
  by_cases h : i = j
  · simp [h]
  · simp only [h, if_false]
    unfold pget
    congr 1
    exact Maps.find_filter_keep (fun p hp => by simp only [beq_iff_eq] at hp; simp [hp, Ne.symm h]) ps

/-! What the calls make of it. -/
def Dk.power (D : Dk) : Dk := if 0 < D.armed then { D with armed := D.armed - 1, down := D.down || D.armed - 1 == 0 } else D
def Dk.see (D : Dk) (i : Nat) : List Int := (pget D.ps i).getD (D.fl i)
/-- how many bytes got to the disk. -/
def rch (p : Int) : Nat := if p % 3 = 0 then 0 else if p % 3 = 1 then 128 else ((p / 3) % 129).toNat
def mix (p : Int) (s f : List Int) : List Int := s.take (rch p) ++ f.drop (rch p)
def upd (fl : Nat → List Int) (i : Nat) (s : List Int) : Nat → List Int := fun j => if j = i then s else fl j
/-- behind the first k of them. -/
def crN (ps : List (Int × List Int)) (picks : List Int) (fl : Nat → List Int) : Nat → Nat → List Int
  | 0 => fl
  | k + 1 => upd (crN ps picks fl k) (ps.getD k (0, [])).1.toNat (mix (picks.getD k 0) (ps.getD k (0, [])).2 (crN ps picks fl k (ps.getD k (0, [])).1.toNat))
def Dk.flush (D : Dk) : Dk := { D with fl := D.see, ps := [], calls := wrap64 (D.calls + 1) }
def Dk.write (D : Dk) (i : Int) (s : List Int) : Dk := { D with ps := putP D.ps i s, calls := wrap64 (D.calls + 1) }
def Dk.crash (D : Dk) (picks : List Int) : Dk := { D with fl := crN D.ps picks D.fl D.ps.length, ps := [], armed := 0, down := false }
def Dk.arm (D : Dk) (n : Int) : Dk := { D with armed := n }
def newDk (n : Nat) : Dk := ⟨n, fun _ => List.replicate 128 0, [], 0, 0, false⟩

theorem rch_le (p : Int) : rch p ≤ 128 := by unfold rch; split; omega; split <;> omega
theorem mix_ok {p : Int} {s f : List Int} (hs : secOk s) (hf : secOk f) : secOk (mix p s f) := by
  have h := rch_le p
  refine ⟨by simp [mix, hs.1, hf.1]; omega, fun x hx => ?_⟩
  rcases List.mem_append.1 hx with hx | hx
  · exact hs.2 x (List.mem_of_mem_take hx)
  · exact hf.2 x (List.mem_of_mem_drop hx)
theorem secOk_rep {x : Int} (h : 0 ≤ x ∧ x < 256) : secOk (List.replicate 128 x) := ⟨by simp, fun y hy => by rw [(List.mem_replicate.1 hy).2]; exact h⟩
theorem Dk.Ok.see {D : Dk} (h : D.Ok) (i : Nat) (hi : i < D.n) : secOk (D.see i) := by
  unfold Dk.see
  cases hp : pget D.ps i with
  | none => exact h.fl i hi
  | some s => exact (h.ps _ (pget_mem hp)).2.2
theorem Dk.Ok.power {D : Dk} (h : D.Ok) : D.power.Ok := by
  unfold Dk.power
  split
  · exact ⟨h.n0, h.n1, h.fl, h.ps, h.rising, by have := h.armed; simp only; omega⟩
  · exact h
theorem Dk.Ok.write {D : Dk} (h : D.Ok) {i : Int} {s : List Int} (h0 : 0 ≤ i) (h1 : i < D.n) (hs : secOk s) : (D.write i s).Ok :=
  ⟨h.n0, h.n1, h.fl, fun p hp => by
    rcases mem_putP hp with rfl | hp
    · exact ⟨h0, h1, hs⟩
    · exact h.ps p hp, putP_rising h.rising, h.armed⟩
theorem Dk.Ok.flush {D : Dk} (h : D.Ok) : D.flush.Ok := ⟨h.n0, h.n1, fun i hi => h.see i hi, fun p hp => absurd hp List.not_mem_nil, List.Pairwise.nil, h.armed⟩
theorem Dk.Ok.arm {D : Dk} (h : D.Ok) {n : Int} (hn : -9223372036854775808 ≤ n) (hn2 : n ≤ 9223372036854775807) : (D.arm n).Ok := ⟨h.n0, h.n1, h.fl, h.ps, h.rising, hn, hn2⟩
theorem Dk.Ok.nth {D : Dk} (h : D.Ok) {k : Nat} (hk : k < D.ps.length) : 0 ≤ (D.ps.getD k (0, [])).1 ∧ (D.ps.getD k (0, [])).1 < D.n ∧ secOk (D.ps.getD k (0, [])).2 := by
  rw [List.getD_eq_getElem?_getD, List.getElem?_eq_getElem hk]
  exact h.ps _ (List.getElem_mem hk)
theorem Dk.Ok.crN {D : Dk} (h : D.Ok) (picks : List Int) : ∀ k, k ≤ D.ps.length → ∀ i, i < D.n → secOk (crN D.ps picks D.fl k i)
  | 0, _, i, hi => h.fl i hi
  | k + 1, hk, i, hi => by
    obtain ⟨h0, h1, h2⟩ := h.nth (show k < D.ps.length by omega)
    have ih := Dk.Ok.crN h picks k (by omega)
    show secOk (upd _ _ _ i)
    unfold upd
    split
    · exact mix_ok h2 (ih _ (by omega))
    · exact ih i hi
theorem Dk.Ok.crash {D : Dk} (h : D.Ok) (picks : List Int) : (D.crash picks).Ok := ⟨h.n0, h.n1, fun i hi => h.crN picks _ (Nat.le_refl _) i hi, fun p hp => absurd hp List.not_mem_nil, List.Pairwise.nil, by simp [Dk.crash]⟩
theorem newDk_ok {n : Nat} (h0 : 1 ≤ n) (h1 : n ≤ 8192) : (newDk n).Ok := ⟨h0, h1, fun i _ => secOk_rep (by omega), fun p hp => absurd hp List.not_mem_nil, List.Pairwise.nil, by simp [newDk]⟩
end Go.Proofs.YtcjjjoodnddoeaaDoor
