/-
  Decimal numerals: which lists of bytes are numbers of at most eighteen digits, and that a number's numeral is read as it; texts of words, parted at their spaces. Nothing of a program stands here.
-/
import Derived.Lib.AtoiTie
import Derived.Lib.ParseIntBTie
import Derived.Lib.ItoaNum
import Derived.Lib.Join
namespace Go.Proofs.YtongpgnnhpbcpaaGreatDoor
open Go.Lib

theorem decFrom_snoc (c : UInt8) : ∀ (l : List UInt8) (acc : Nat), decFrom acc (l ++ [c]) = (decFrom acc l).bind fun m => (digitVal c).map fun d => m * 10 + d
  | [], acc => by
    simp only [List.nil_append, decFrom, Option.bind_some]
    cases digitVal c <;> rfl
  | b :: l, acc => by
    simp only [List.cons_append, decFrom]
    cases digitVal b with
    | none => rfl
    | some d => exact decFrom_snoc c l _
theorem digit_byte (u : Nat) (h : u < 10) : digitVal (UInt8.ofNat (48 + u)) = some u := by
  have hn : (UInt8.ofNat (48 + u)).toNat = 48 + u := by rw [UInt8.toNat_ofNat']; omega
  unfold digitVal
  rw [hn, if_pos (by omega)]
  congr 1
  omega
theorem byte_digit (c : UInt8) (d : Nat) (h : digitVal c = some d) : c = UInt8.ofNat (48 + d) ∧ d < 10 := by
  obtain ⟨h1, h2, h3⟩ := digitVal_eq h
  refine ⟨UInt8.toNat_inj.1 ?_, by omega⟩
  rw [UInt8.toNat_ofNat']; omega
/-- a numeral is read as its number. -/
theorem decFrom_digits (u : Nat) : decFrom 0 (decDigits u) = some u := by
  induction u using Nat.strongRecOn with
  | _ u ih =>
    by_cases h : u < 10
    · rw [decDigits_one h]
      simp only [decFrom, digit_byte u h]
      congr 1; omega
    · rw [decDigits, dif_neg h, decFrom_snoc, ih (u / 10) (by omega), digit_byte _ (by omega)]
      simp only [Option.bind_some, Option.map_some]
      congr 1; omega
theorem digits_ne (u : Nat) : decDigits u ≠ [] := by
  intro h
  have := decDigits_length u
  rw [h] at this
  have := nDigits_pos u
  simp at *
  omega
/-- .. and what is read as a number, without a 0 ahead, is its numeral. -/
theorem digits_of : ∀ (k : Nat) (l : List UInt8) (n : Nat), l.length = k → l ≠ [] → decFrom 0 l = some n → ¬ (l.head? = some 48 ∧ 1 < l.length) → decDigits n = l
  | 0, l, n, hk, h0, _, _ => absurd (List.eq_nil_of_length_eq_zero hk) h0
  | k + 1, l, n, hk, h0, h, hz => by
    obtain ⟨l', c, rfl⟩ : ∃ l' c, l = l' ++ [c] := ⟨l.dropLast, l.getLast h0, (List.dropLast_concat_getLast h0).symm⟩
    have hk' : l'.length = k := by simpa using hk
    rw [decFrom_snoc] at h
    cases hm : decFrom 0 l' with
    | none => rw [hm] at h; cases h
    | some m =>
      cases hd : digitVal c with
      | none => rw [hm, hd] at h; cases h
      | some d =>
        rw [hm, hd] at h
        simp only [Option.bind_some, Option.map_some, Option.some.injEq] at h
        obtain ⟨rfl, hd10⟩ := byte_digit c d hd
        by_cases hl : l' = []
        · subst hl
          simp only [decFrom, Option.some.injEq] at hm
          subst hm
          rw [← h, Nat.zero_mul, Nat.zero_add, decDigits_one hd10]
          rfl
        · have hlen : 0 < l'.length := List.length_pos_iff.2 hl
          have hhead : (l' ++ [UInt8.ofNat (48 + d)]).head? = l'.head? := by
            cases l' with
            | nil => exact absurd rfl hl
            | cons _ _ => rfl
          have hz' : l'.head? ≠ some 48 := fun e => hz ⟨by rw [hhead]; exact e, by simp; omega⟩
          have ih := digits_of k l' m hk' hl hm (fun e => hz' e.1)
          have hm0 : m ≠ 0 := fun e => by
            subst e
            rw [decDigits_one (by decide)] at ih
            rw [← ih] at hz'
            exact hz' (by decide)
          have e1 : n / 10 = m := by omega
          have e2 : n % 10 = d := by omega
          rw [decDigits, dif_neg (by omega), e1, e2, ih]
theorem digits_head (u : Nat) : ¬ ((decDigits u).head? = some 48 ∧ 1 < (decDigits u).length) := by
  induction u using Nat.strongRecOn with
  | _ u ih =>
    by_cases h : u < 10
    · rw [decDigits_one h]; simp
    · rw [decDigits, dif_neg h]
      intro ⟨h1, _⟩
      have hne := digits_ne (u / 10)
      have hh : (decDigits (u / 10) ++ [UInt8.ofNat (48 + u % 10)]).head? = (decDigits (u / 10)).head? := by
        cases hc : decDigits (u / 10) with
        | nil => exact absurd hc hne
        | cons _ _ => rfl
      rw [hh] at h1
      by_cases h10 : u / 10 < 10
      · rw [decDigits_one h10] at h1
        simp only [List.head?_cons, Option.some.injEq] at h1
        have := congrArg UInt8.toNat h1
        rw [UInt8.toNat_ofNat'] at this
        have e48 : (48 : UInt8).toNat = 48 := by decide
        rw [e48] at this
        omega
      · refine ih (u / 10) (by omega) ⟨h1, ?_⟩
        rw [decDigits_length, nDigits_big h10]
        have := nDigits_pos (u / 10 / 10)
        omega
theorem digits_bytes (u : Nat) : ∀ c ∈ decDigits u, 48 ≤ c.toNat ∧ c.toNat ≤ 57 := by
  intro c hc
  obtain ⟨k, hk, e⟩ := List.getElem_of_mem hc
  obtain ⟨d, hd⟩ := digit_of_decFrom _ 0 u (decFrom_digits u) k c (by rw [List.getElem?_eq_getElem hk, e])
  obtain ⟨h1, h2, _⟩ := digitVal_eq hd
  exact ⟨h1, h2⟩
theorem digits_short {u : Nat} (h : u < 1000000000000000000) : (decDigits u).length ≤ 18 := by
  rw [decDigits_length]
  rcases Nat.lt_or_ge 18 (nDigits u) with hk | hk
  · obtain ⟨k, hk2⟩ : ∃ k, nDigits u = k + 1 := ⟨nDigits u - 1, by omega⟩
    have key : ∀ (k v : Nat), nDigits v = k + 1 → v < 10 ∨ 10 ^ k ≤ v := by
      intro k
      induction k with
      | zero => intro v hv; rcases Nat.lt_or_ge v 10 with h | h
                · exact .inl h
                · exact .inr (by simp; omega)
      | succ k ih =>
        intro v hv
        rcases Nat.lt_or_ge v 10 with h | h
        · exact .inl h
        · rw [nDigits_big (by omega)] at hv
          have hv' : nDigits (v / 10) = k + 1 := by omega
          rcases ih (v / 10) hv' with h2 | h2
          · rw [nDigits_small h2] at hv'
            obtain rfl : k = 0 := by omega
            exact .inr (by simpa using h)
          · refine .inr ?_
            rw [Nat.pow_succ]; omega
    rcases key k u hk2 with h1 | h1
    · rw [nDigits_small h1] at hk; omega
    · have : 10 ^ 18 ≤ 10 ^ k := Nat.pow_le_pow_right (by decide) (by omega)
      have e18 : (10 : Nat) ^ 18 = 1000000000000000000 := by decide
      omega
  · exact hk

/-- a number as the document has it: 1 to 18 digits, no 0 ahead of others. -/
def nuO (l : List UInt8) : Option Int := if l.length ≤ 18 ∧ ¬ (l.head? = some 48 ∧ 1 < l.length) then (decNat l).map fun (m : Nat) => (m : Int) else none
theorem nuO_bd {l : List UInt8} {v : Int} (h : nuO l = some v) : 0 ≤ v ∧ v < 1000000000000000000 := by
  unfold nuO at h
  split at h
  · rename_i hc
    obtain ⟨m, hm, e⟩ := Option.map_eq_some_iff.1 h
    have h1 := decFrom_lt18 (decNat_some hm).2 hc.1
    have e2 : (m : Int) = v := e
    omega
  · cases h
theorem itoa_nat (u : Nat) : itoa (u : Int) = decDigits u := by unfold itoa; rw [if_neg (by omega), Int.toNat_natCast]
theorem nuO_itoa {v : Int} (h0 : 0 ≤ v) (h1 : v < 1000000000000000000) : nuO (itoa v) = some v := by
  obtain ⟨u, rfl⟩ := Int.eq_ofNat_of_zero_le h0
  rw [itoa_nat]
  unfold nuO
  rw [if_pos ⟨digits_short (by omega), digits_head u⟩]
  have : decNat (decDigits u) = some u := by
    unfold decNat
    rw [if_neg (by have := digits_ne u; simpa using this)]
    exact decFrom_digits u
  rw [this]; rfl
theorem decNat_sign (c : UInt8) (r : List UInt8) (h : digitVal c = none) : decNat (c :: r) = none := by
  simp [decNat, decFrom, h]
theorem decNat_long {l : List UInt8} (h : ¬ l.length ≤ 18) : nuO l = none := by unfold nuO; rw [if_neg (fun e => h e.1)]
/-- what the library's reading of a word comes to. -/
inductive NuWay (l : List UInt8) : Prop where
  | none (h : atoi l = none) (h2 : nuO l = Option.none)
  | neg (v : Int) (h : atoi l = some v) (hn : v < 0) (hb : -1000000000000000000 < v) (h2 : nuO l = Option.none)
  | other (v : Int) (h : atoi l = some v) (hn : 0 ≤ v) (hb : v < 1000000000000000000) (hd : itoa v ≠ l) (h2 : nuO l = Option.none)
  | yes (v : Int) (h : atoi l = some v) (hn : 0 ≤ v) (hb : v < 1000000000000000000) (hd : itoa v = l) (h2 : nuO l = some v)
theorem nu_ways (l : List UInt8) (hl : l.length ≤ 18) : NuWay l := by
  cases h : atoi l with
  | none =>
    refine .none h ?_
    have hd : decNat l = none := by
      cases l with
      | nil => rfl
      | cons b r =>
        simp only [atoi] at h
        split at h
        · rename_i hb
          have hb' : b = 45 := by simpa using hb
          subst hb'
          exact decNat_sign _ _ (by decide)
        · split at h
          · rename_i hb
            have hb' : b = 43 := by simpa using hb
            subst hb'
            exact decNat_sign _ _ (by decide)
          · simpa using h
    unfold nuO
    split
    · rw [hd]; rfl
    · rfl
  | some v =>
    have hbd : -1000000000000000000 < v ∧ v < 1000000000000000000 := by
      obtain ⟨b0, r, rfl, h3⟩ := atoi_cases h
      have hr : r.length ≤ 18 := by simp at hl; omega
      rcases h3 with ⟨_, m, _, hd, rfl⟩ | ⟨_, m, _, hd, rfl⟩ | ⟨_, _, m, hd, rfl⟩
      · have := decFrom_lt18 hd hr; omega
      · have := decFrom_lt18 hd hr; omega
      · have := decFrom_lt18 hd hl; omega
    by_cases h0 : v < 0
    · refine .neg v h h0 hbd.1 ?_
      obtain ⟨b0, r, rfl, h3⟩ := atoi_cases h
      rcases h3 with ⟨rfl, m, _, hd, rfl⟩ | ⟨_, m, _, hd, rfl⟩ | ⟨_, _, m, hd, rfl⟩
      · unfold nuO
        rw [decNat_sign _ _ (by decide)]
        split <;> rfl
      · omega
      · omega
    · by_cases he : itoa v = l
      · refine .yes v h (by omega) hbd.2 he ?_
        rw [← he]
        exact nuO_itoa (by omega) hbd.2
      · refine .other v h (by omega) hbd.2 he ?_
        cases hn : nuO l with
        | none => rfl
        | some m =>
          exfalso
          unfold nuO at hn
          split at hn
          · rename_i hc
            obtain ⟨k, hk, rfl⟩ := Option.map_eq_some_iff.1 hn
            obtain ⟨hne, hf⟩ := decNat_some hk
            have hdl := digits_of _ l k rfl hne hf hc.2
            have : atoi l = some (k : Int) := by
              cases l with
              | nil => exact absurd rfl hne
              | cons b r =>
                have hb := digit_of_decFrom _ 0 k hf 0 b rfl
                obtain ⟨d, hd⟩ := hb
                obtain ⟨q1, q2, _⟩ := digitVal_eq hd
                have n45 : (b == 45) = false := by rw [beq_eq_false_iff_ne]; rintro rfl; exact absurd q1 (by decide)
                have n43 : (b == 43) = false := by rw [beq_eq_false_iff_ne]; rintro rfl; exact absurd q1 (by decide)
                simp only [atoi, n45, n43, Bool.false_eq_true, if_false]
                rw [hk]; rfl
            rw [this] at h
            have e := Option.some.inj h
            subst e
            exact he (by rw [itoa_nat]; exact hdl)
          · cases hn
theorem itoa_ne {v : Int} (h0 : 0 ≤ v) : itoa v ≠ [] := by
  obtain ⟨u, rfl⟩ := Int.eq_ofNat_of_zero_le h0
  rw [itoa_nat]; exact digits_ne u
theorem itoa_space {v : Int} (h0 : 0 ≤ v) : ∀ c ∈ itoa v, c ≠ 32 := by
  obtain ⟨u, rfl⟩ := Int.eq_ofNat_of_zero_le h0
  rw [itoa_nat]
  intro c hc e
  subst e
  have := digits_bytes u _ hc
  exact absurd this.1 (by decide)

/-! texts of words -/
/-- the words of a text, parted at each space; 'cur': what is there of the first one. -/
def spl (cur : List UInt8) : List UInt8 → List (List UInt8)
  | [] => [cur]
  | c :: r => if c = 32 then cur :: spl [] r else spl (cur ++ [c]) r
theorem spl_word (w : List UInt8) (hw : ∀ c ∈ w, c ≠ 32) : ∀ (cur t : List UInt8), spl cur (w ++ t) = spl (cur ++ w) t := by
  induction w with
  | nil => intro cur t; simp
  | cons c w ih =>
    intro cur t
    rw [List.cons_append, spl, if_neg (hw c (by simp)), ih (fun x hx => hw x (List.mem_cons_of_mem _ hx))]
    simp
theorem spl_join : ∀ (ws : List (List UInt8)), ws ≠ [] → (∀ w ∈ ws, ∀ c ∈ w, c ≠ 32) → spl [] (join ws [32]) = ws
  | [], h, _ => absurd rfl h
  | w :: ws, _, hs => by
    have hw := hs w (by simp)
    have tail : ∀ (ws : List (List UInt8)), (∀ w ∈ ws, ∀ c ∈ w, c ≠ 32) → ∀ cur, spl cur (joinTail [32] ws) = cur :: ws := by
      intro ws
      induction ws with
      | nil => intro _ cur; simp [joinTail, spl]
      | cons x ws ih =>
        intro h cur
        have e : joinTail [32] (x :: ws) = 32 :: (x ++ joinTail [32] ws) := by simp [joinTail]
        rw [e, spl, if_pos rfl, spl_word x (h x (by simp)), List.nil_append, ih (fun w hw => h w (List.mem_cons_of_mem _ hw))]
    rw [join_cons, spl_word w hw, List.nil_append, tail ws (fun x hx => hs x (List.mem_cons_of_mem _ hx))]
end Go.Proofs.YtongpgnnhpbcpaaGreatDoor
