/-
  A root as plain data: its bytes, and back; bytes that are torn.
-/
import Derived.Test.YtcjjjoodnddoeaaDoorDiskMath
namespace Go.Proofs.YtcjjjoodnddoeaaDoor
open Go Go.RowKit
set_option linter.unusedVariables false

/-- the lowest k bytes of a number, the lowest first. -/
def lob : Nat → Int → List Int
  | 0, _ => []
  | k + 1, n => n % 256 :: lob k (n / 256)
def unlob : List Int → Int
  | [] => 0
  | b :: r => b + 256 * unlob r
theorem lob_len : ∀ k n, (lob k n).length = k
  | 0, _ => rfl
  | k + 1, n => by simp [lob, lob_len k]
theorem lob_byte : ∀ k n, ∀ x ∈ lob k n, 0 ≤ x ∧ x < 256
  | 0, _, _, h => absurd h List.not_mem_nil
  | k + 1, n, x, h => by
    rcases List.mem_cons.1 h with rfl | h
    · omega
    · exact lob_byte k _ x h
theorem unlob_lob : ∀ k n, 0 ≤ n → n < 256 ^ k → unlob (lob k n) = n
  | 0, n, h0, h => by simp [lob, unlob] at *; omega
  | k + 1, n, h0, h => by
    have h1 : n / 256 < 256 ^ k := by
      rw [Int.pow_succ] at h
      generalize (256 : Int) ^ k = M at *
      omega
    simp only [lob, unlob]
    rw [unlob_lob k (n / 256) (by omega) h1]
    omega
theorem lob_snoc : ∀ k n, lob (k + 1) n = lob k n ++ [n / 256 ^ k % 256]
  | 0, n => by simp [lob]
  | k + 1, n => by
    rw [lob, lob_snoc k (n / 256), lob]
    simp only [List.cons_append, List.cons.injEq, true_and]
    congr 2
    rw [Int.ediv_ediv_of_nonneg (by decide), Int.pow_succ, Int.mul_comm 256]
theorem unlob_snoc : ∀ (l : List Int) (x : Int), unlob (l ++ [x]) = unlob l + x * 256 ^ l.length
  | [], x => by simp [unlob]
  | b :: r, x => by
    simp only [List.cons_append, unlob, unlob_snoc r x, List.length_cons, Int.pow_succ]
    grind
theorem unlob_lo : ∀ (l : List Int), (∀ x ∈ l, 0 ≤ x ∧ x < 256) → 0 ≤ unlob l
  | [], _ => by simp [unlob]
  | b :: r, h => by
    have := h b (by simp)
    have := unlob_lo r fun x hx => h x (by simp [hx])
    simp only [unlob]
    omega
theorem unlob_hi : ∀ (l : List Int), (∀ x ∈ l, 0 ≤ x ∧ x < 256) → unlob l < 256 ^ l.length
  | [], _ => by simp [unlob]
  | b :: r, h => by
    have := h b (by simp)
    have := unlob_hi r fun x hx => h x (by simp [hx])
    simp only [unlob, List.length_cons, Int.pow_succ]
    generalize (256 : Int) ^ r.length = M at *
    omega

/-! A root's bytes. -/
def itms (xs : List Int) : List Int := xs.flatMap (lob 2)
theorem itms_len : ∀ xs, (itms xs).length = 2 * xs.length
  | [] => rfl
  | x :: r => by
    have := itms_len r
    simp only [itms, List.flatMap_cons, List.length_append, lob_len, List.length_cons] at *
    omega
theorem itms_snoc (xs : List Int) (x : Int) : itms (xs ++ [x]) = itms xs ++ lob 2 x := by simp [itms]
theorem itms_byte (xs : List Int) : ∀ x ∈ itms xs, 0 ≤ x ∧ x < 256 := fun x hx => by
  obtain ⟨y, _, hy⟩ := List.mem_flatMap.1 hx
  exact lob_byte 2 y x hy
def rtM (xs : List Int) : List Int := ((xs.length : Int) :: itms xs) ++ List.replicate (115 - 2 * xs.length) 0
def rtB (e : Int) (xs : List Int) : List Int := lob 6 e ++ rtM xs ++ lob 6 e
structure RtOk (e : Int) (xs : List Int) : Prop where
  e0 : 1 ≤ e
  e1 : e ≤ 1099511627776
  num : ∀ x ∈ xs, 0 ≤ x ∧ x ≤ 8192
  len : xs.length ≤ 40
def rtBad (xs : List Int) : Bool := xs.any fun x => decide (x < 0) || decide (8192 < x)
def rtC (e : Int) (xs : List Int) : Int := if e < 1 ∨ 1099511627776 < e then 103 else if rtBad xs = true then 103 else if 40 < xs.length then 105 else 0
theorem rtBad_ok {xs : List Int} : rtBad xs = false ↔ ∀ x ∈ xs, 0 ≤ x ∧ x ≤ 8192 := by
  simp only [rtBad, List.any_eq_false, Bool.or_eq_true, decide_eq_true_eq]
  exact ⟨fun h x hx => by have := h x hx; omega, fun h x hx => by have := h x hx; omega⟩
theorem rtC_ok {e : Int} {xs : List Int} : rtC e xs = 0 ↔ RtOk e xs := by
  unfold rtC
  constructor
  · intro h
    split at h
    · omega
    · rename_i h1
      split at h
      · omega
      · rename_i h2
        split at h
        · omega
        · rename_i h3
          exact ⟨by omega, by omega, rtBad_ok.1 (by simpa using h2), by omega⟩
  · intro h
    have h1 := h.e0
    have h2 := h.e1
    have h3 := h.len
    rw [if_neg (by omega), if_neg (by rw [rtBad_ok.2 h.num]; decide), if_neg (by omega)]
theorem rtC_code (e : Int) (xs : List Int) : rtC e xs = 0 ∨ rtC e xs = 103 ∨ rtC e xs = 105 := by
  unfold rtC
  split
  · exact .inr (.inl rfl)
  · split
    · exact .inr (.inl rfl)
    · split
      · exact .inr (.inr rfl)
      · exact .inl rfl
theorem rtM_len {xs : List Int} (h : xs.length ≤ 40) : (rtM xs).length = 116 := by simp [rtM, itms_len]; omega
theorem rtB_ok {e : Int} {xs : List Int} (h : RtOk e xs) : secOk (rtB e xs) := by
  have h1 := rtM_len h.len
  have h2 := h.len
  refine ⟨by simp [rtB, lob_len, h1], fun x hx => ?_⟩
  simp only [rtB, rtM, List.mem_append, List.mem_cons, List.mem_replicate] at hx
  rcases hx with (hx | ((rfl | hx) | ⟨_, rfl⟩)) | hx
  · exact lob_byte _ _ x hx
  · omega
  · exact itms_byte _ x hx
  · omega
  · exact lob_byte _ _ x hx

/-! .. and back. -/
def dcE (b : List Int) : Int := unlob (b.take 6)
def dcI (b : List Int) (i : Nat) : Int := unlob ((b.drop (7 + 2 * i)).take 2)
def dcN (b : List Int) : Nat := min (b.getD 6 0).toNat 40
def dcX (b : List Int) : List Int := (List.range (dcN b)).map (dcI b)
theorem itms_at : ∀ (xs t : List Int) (i : Nat), i < xs.length → ((itms xs ++ t).drop (2 * i)).take 2 = lob 2 (xs.getD i 0)
  | [], t, i, h => by simp at h
  | x :: r, t, 0, _ => by simp [itms, lob]
  | x :: r, t, i + 1, h => by
    have := itms_at r t i (by simpa using h)
    rw [show 2 * (i + 1) = 2 * i + 2 by omega]
    simpa [itms, lob] using this
theorem dcE_rtB {e : Int} {xs : List Int} (h : RtOk e xs) : dcE (rtB e xs) = e := by
  have h1 := h.e0
  have h2 := h.e1
  have e1 : (rtB e xs).take 6 = lob 6 e := by
    rw [rtB, List.append_assoc, List.take_append_of_le_length (by rw [lob_len]; omega), List.take_of_length_le (by rw [lob_len]; omega)]
  rw [dcE, e1, unlob_lob 6 e (by omega) (by omega)]
theorem rtB_drop6 (e : Int) (xs : List Int) : (rtB e xs).drop 6 = (xs.length : Int) :: (itms xs ++ (List.replicate (115 - 2 * xs.length) 0 ++ lob 6 e)) := by
  rw [rtB, List.append_assoc, List.drop_append_of_le_length (by rw [lob_len]; omega), List.drop_of_length_le (by rw [lob_len]; omega)]
  simp [rtM]
theorem dcN_rtB {e : Int} {xs : List Int} (h : RtOk e xs) : dcN (rtB e xs) = xs.length := by
  have h1 : (rtB e xs).getD 6 0 = xs.length := by
    have : ((rtB e xs).drop 6).getD 0 0 = xs.length := by rw [rtB_drop6]; rfl
    simpa [List.getD_eq_getElem?_getD] using this
  rw [dcN, h1]
  have := h.len
  omega
theorem dcX_rtB {e : Int} {xs : List Int} (h : RtOk e xs) : dcX (rtB e xs) = xs := by
  refine List.ext_getElem (by simp [dcX, dcN_rtB h]) fun i h1 h2 => ?_
  have e1 : (rtB e xs).drop (7 + 2 * i) = ((rtB e xs).drop 6).drop (2 * i + 1) := by rw [List.drop_drop]; congr 1; omega
  have e2 : xs.getD i 0 = xs[i] := by rw [List.getD_eq_getElem?_getD, List.getElem?_eq_getElem h2]; rfl
  have h3 := h.num _ (List.getElem_mem h2)
  simp only [dcX, List.getElem_map, List.getElem_range, dcI]
  rw [e1, rtB_drop6, List.drop_succ_cons, itms_at _ _ _ h2, e2, unlob_lob 2 _ (by omega) (by omega)]
def rootOf (b : List Int) : Option (Int × List Int) := if b.length = 128 ∧ rtC (dcE b) (dcX b) = 0 ∧ rtB (dcE b) (dcX b) = b then some (dcE b, dcX b) else none
theorem rootOf_rtB {e : Int} {xs : List Int} (h : RtOk e xs) : rootOf (rtB e xs) = some (e, xs) := by
  rw [rootOf, dcE_rtB h, dcX_rtB h, if_pos ⟨(rtB_ok h).1, rtC_ok.2 h, rfl⟩]
theorem rootOf_some {b : List Int} {e : Int} {xs : List Int} (h : rootOf b = some (e, xs)) : RtOk e xs ∧ b = rtB e xs := by
  unfold rootOf at h
  split at h
  · rename_i h1
    simp only [Option.some.injEq, Prod.mk.injEq] at h
    obtain ⟨rfl, rfl⟩ := h
    exact ⟨rtC_ok.1 h1.2.1, h1.2.2.symm⟩
  · cases h
theorem rootOf_len {b : List Int} (h : b.length ≠ 128) : rootOf b = none := by rw [rootOf, if_neg fun h1 => h h1.1]
theorem lob_inj {e f : Int} (he0 : 0 ≤ e) (he1 : e ≤ 1099511627776) (hf0 : 0 ≤ f) (hf1 : f ≤ 1099511627776) (h : lob 6 e = lob 6 f) : e = f := by
  have h1 := unlob_lob 6 e (by omega) (by omega)
  have h2 := unlob_lob 6 f (by omega) (by omega)
  rw [← h1, ← h2, h]
theorem rtM_inj {xs ys : List Int} {e f : Int} (hx : RtOk e xs) (hy : RtOk f ys) (h : rtM xs = rtM ys) : xs = ys := by
  have h1 := dcX_rtB (e := e) (xs := xs) hx
  have h2 := dcX_rtB (e := e) (xs := ys) ⟨hx.e0, hx.e1, hy.num, hy.len⟩
  have h3 : rtB e xs = rtB e ys := by simp only [rtB, h]
  rw [← h1, ← h2, h3]
/-- nothing. -/
def zs128 : List Int := List.replicate 128 0
theorem rootOf_zs : rootOf zs128 = none := by
  cases h : rootOf zs128 with
  | none => rfl
  | some p =>
    obtain ⟨e, xs⟩ := p
    obtain ⟨h1, h2⟩ := rootOf_some h
    have h3 : (rtB e xs).take 6 = List.replicate 6 0 := by rw [← h2]; rfl
    have h4 := dcE_rtB h1
    rw [dcE, h3] at h4
    have := h1.e0
    simp [unlob] at h4
    omega
/-- b's first n bytes, a's behind. -/
def torn (n : Nat) (b a : List Int) : List Int := b.take n ++ a.drop n
theorem torn_len {n : Nat} {b a : List Int} (hb : b.length = 128) (ha : a.length = 128) (hn : n ≤ 128) : (torn n b a).length = 128 := by simp [torn, hb, ha]; omega
theorem torn_none (b a : List Int) : torn 0 b a = a := by simp [torn]
theorem torn_all {b a : List Int} (hb : b.length = 128) (ha : a.length = 128) : torn 128 b a = b := by simp [torn, ← hb]; omega
theorem torn_torn (n : Nat) (c b a : List Int) (hb : n ≤ b.length) : torn n c (torn n b a) = torn n c a := by
  have : (b.take n ++ a.drop n).drop n = a.drop n := by
    rw [List.drop_append, List.drop_of_length_le (by simp [Nat.min_eq_left hb]), List.nil_append]
    simp [List.length_take, Nat.min_eq_left hb]
  simp only [torn, this]
/-- its two Epochs, where it is torn. -/
theorem torn_ends {n : Nat} {b a : List Int} {e : Int} {zs : List Int} (hb : b.length = 128) (ha : a.length = 128) (hz : RtOk e zs) (h : torn n b a = rtB e zs) :
    (n ≤ 6 → (a.drop 6).take 116 = rtM zs ∧ a.drop 122 = lob 6 e) ∧ (6 ≤ n → n ≤ 122 → b.take 6 = lob 6 e ∧ a.drop 122 = lob 6 e) ∧ (122 ≤ n → b.take 6 = lob 6 e ∧ (b.drop 6).take 116 = rtM zs) := by
  have hm := rtM_len hz.len
  have l6 := lob_len 6 e
  have e1 : (rtB e zs).take 6 = lob 6 e := by rw [rtB, List.append_assoc, List.take_append_of_le_length (by omega), List.take_of_length_le (by omega)]
  have e2 : (rtB e zs).drop 122 = lob 6 e := by rw [rtB, List.drop_append, List.drop_of_length_le (by simp; omega), List.length_append, l6, hm]; rfl
  have e3 : ((rtB e zs).drop 6).take 116 = rtM zs := by
    rw [rtB, List.append_assoc, List.drop_append_of_le_length (by omega), List.drop_of_length_le (by omega), List.nil_append, List.take_append_of_le_length (by omega), List.take_of_length_le (by omega)]
  have t1 : ∀ k, n ≤ k → (torn n b a).drop k = a.drop k := fun k hk => by
    by_cases hn : n ≤ 128
    · rw [torn, List.drop_append, List.drop_of_length_le (by simp; omega), List.nil_append, List.drop_drop, List.length_take, hb]
      congr 1
      omega
    · rw [torn, List.drop_append, List.drop_of_length_le (by simp; omega), List.nil_append, List.drop_drop, List.drop_of_length_le (by simp [hb, ha]; omega), List.drop_of_length_le (by omega)]
  have t2 : ∀ k, k ≤ n → k ≤ 128 → (torn n b a).take k = b.take k := fun k hk hk2 => by
    rw [torn, List.take_append_of_le_length (by simp; omega), List.take_take, Nat.min_eq_left hk]
  refine ⟨fun hn => ⟨?_, ?_⟩, fun h6 hn => ⟨?_, ?_⟩, fun hn => ⟨?_, ?_⟩⟩
  · rw [← t1 6 hn, h, e3]
  · rw [← t1 122 (by omega), h, e2]
  · rw [← t2 6 h6 (by omega), h, e1]
  · rw [← t1 122 hn, h, e2]
  · rw [← t2 6 (by omega) (by omega), h, e1]
  · rw [← e3, ← h]
    have := t2 122 hn (by omega)
    have q : ∀ l : List Int, (l.drop 6).take 116 = (l.take 122).drop 6 := fun l => by rw [List.drop_take]
    rw [q, q, this]
theorem rtB_parts {e : Int} {xs : List Int} (h : RtOk e xs) : (rtB e xs).length = 128 ∧ (rtB e xs).take 6 = lob 6 e ∧ ((rtB e xs).drop 6).take 116 = rtM xs ∧ (rtB e xs).drop 122 = lob 6 e := by
  have h1 := torn_ends (n := 0) (rtB_ok h).1 (rtB_ok h).1 h (torn_none _ _)
  have h2 := torn_ends (n := 128) (rtB_ok h).1 (rtB_ok h).1 h (torn_all (rtB_ok h).1 (rtB_ok h).1)
  exact ⟨(rtB_ok h).1, (h2.2.2 (by omega)).1, (h1.1 (by omega)).1, (h1.1 (by omega)).2⟩
/-- P6.2, of two roots. -/
theorem torn_root {n : Nat} {ea eb e : Int} {xs ys zs : List Int} (ha : RtOk ea xs) (hb : RtOk eb ys) (hne : ea ≠ eb) (h : rootOf (torn n (rtB eb ys) (rtB ea xs)) = some (e, zs)) : (n ≤ 6 ∧ e = ea ∧ zs = xs) ∨ (122 ≤ n ∧ e = eb ∧ zs = ys) := by
  obtain ⟨hz, h2⟩ := rootOf_some h
  obtain ⟨a0, a1, a2, a3⟩ := rtB_parts ha
  obtain ⟨b0, b1, b2, b3⟩ := rtB_parts hb
  obtain ⟨t1, t2, t3⟩ := torn_ends b0 a0 hz h2
  have u1 := ha.e0; have u2 := ha.e1; have u3 := hb.e0; have u4 := hb.e1; have u5 := hz.e0; have u6 := hz.e1
  by_cases h6 : n ≤ 6
  · obtain ⟨p, q⟩ := t1 h6
    exact .inl ⟨h6, (lob_inj (by omega) u2 (by omega) u6 (a3.symm.trans q)).symm, (rtM_inj ha hz (a2.symm.trans p)).symm⟩
  · by_cases h122 : 122 ≤ n
    · obtain ⟨p, q⟩ := t3 h122
      exact .inr ⟨h122, (lob_inj (by omega) u4 (by omega) u6 (b1.symm.trans p)).symm, (rtM_inj hb hz (b2.symm.trans q)).symm⟩
    · obtain ⟨p, q⟩ := t2 (by omega) (by omega)
      have := lob_inj (by omega) u4 (by omega) u6 (b1.symm.trans p)
      have := lob_inj (by omega) u2 (by omega) u6 (a3.symm.trans q)
      exact absurd (by omega) hne
/-- P6.2, of one and nothing. -/
theorem torn_zs {n : Nat} {eb e : Int} {ys zs : List Int} (hb : RtOk eb ys) (h : rootOf (torn n (rtB eb ys) zs128) = some (e, zs)) : 122 ≤ n ∧ e = eb ∧ zs = ys := by
  obtain ⟨hz, h2⟩ := rootOf_some h
  obtain ⟨b0, b1, b2, b3⟩ := rtB_parts hb
  obtain ⟨t1, t2, t3⟩ := torn_ends b0 (by simp [zs128]) hz h2
  have u3 := hb.e0; have u4 := hb.e1; have u5 := hz.e0; have u6 := hz.e1
  have hd : zs128.drop 122 = lob 6 0 := by simp [zs128, lob]
  by_cases h122 : 122 ≤ n
  · obtain ⟨p, q⟩ := t3 h122
    exact ⟨h122, (lob_inj (by omega) u4 (by omega) u6 (b1.symm.trans p)).symm, (rtM_inj hb hz (b2.symm.trans q)).symm⟩
  · have q : zs128.drop 122 = lob 6 e := by
      by_cases h6 : n ≤ 6
      · exact (t1 h6).2
      · exact (t2 (by omega) (by omega)).2
    have := lob_inj (by omega) (by omega) (by omega) u6 (hd.symm.trans q)
    omega
end Go.Proofs.YtcjjjoodnddoeaaDoor
