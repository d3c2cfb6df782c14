/-
  What Read comes to: numbers from 0 to 2^62, one behind the other; an operation's own bytes, all of them, too few, one too many.
-/
import Derived.Test.YtongpgnnhpbcpaaGreatDoorOpMath
import Derived.Test.YtongpgnnhpbcpaaGreatDoorLaw
namespace Go.Proofs.YtongpgnnhpbcpaaGreatDoor
open Go.RowKit
set_option linter.unusedVariables false

/-- a number from 0 to 2^62 at the beginning: it, and how long it is; or the error's number (0: too early, 1: not as it has to be, 2: out of range). -/
def numG (xs : List Int) : (Int × Nat) ⊕ Nat :=
  match dec 0 0 xs with
  | .fin => .inr 0
  | .shape => .inr 1
  | .ok u n => if 0 ≤ uz u ∧ uz u ≤ 4611686018427387904 then .inl (uz u, n) else .inr 2
structure RdG where
  p : Nat
  bad : Option Nat
/-- the next number, and where the reader is behind it. -/
def rdN25 (xs : List Int) (s : RdG) : Int × RdG :=
  match s.bad with
  | some c => (0, s)
  | none => match numG (xs.drop s.p) with
    | .inl (x, n) => (x, ⟨s.p + n, none⟩)
    | .inr c => (0, ⟨s.p, some c⟩)
def rdS25 (xs : List Int) : Nat → RdG
  | 0 => ⟨0, none⟩
  | k + 1 => (rdN25 xs (rdS25 xs k)).2
/-- the k-th number. -/
def rdV25 (xs : List Int) (k : Nat) : Int := (rdN25 xs (rdS25 xs k)).1
theorem rdS_next25 (xs : List Int) (k : Nat) : rdS25 xs (k + 1) = (rdN25 xs (rdS25 xs k)).2 := rfl
theorem numG_code {xs : List Int} {c : Nat} (h : numG xs = .inr c) : c < 3 := by
  unfold numG at h
  split at h
  · cases h; decide
  · cases h; decide
  · split at h
    · cases h
    · cases h; decide
theorem numG_bd {xs : List Int} {x : Int} {n : Nat} (h : numG xs = .inl (x, n)) : (0 ≤ x ∧ x ≤ 4611686018427387904) ∧ n ≤ xs.length := by
  unfold numG at h
  split at h
  · cases h
  · cases h
  · rename_i u m hd
    split at h
    · rename_i hb
      cases h
      have := dec_len _ _ _ _ _ hd
      exact ⟨hb, by omega⟩
    · cases h
theorem rdN_code25 {xs : List Int} {s : RdG} (hs : ∀ c, s.bad = some c → c < 3) : ∀ c, (rdN25 xs s).2.bad = some c → c < 3 := by
  intro c h
  unfold rdN25 at h
  split at h
  · exact hs c h
  · split at h
    · cases h
    · rename_i hc
      cases h
      exact numG_code hc
theorem rdS_code25 (xs : List Int) : ∀ k c, (rdS25 xs k).bad = some c → c < 3
  | 0, c, h => by cases h
  | k + 1, c, h => rdN_code25 (rdS_code25 xs k) c h
theorem rdN_bd25 (xs : List Int) (s : RdG) : 0 ≤ (rdN25 xs s).1 ∧ (rdN25 xs s).1 ≤ 4611686018427387904 := by
  unfold rdN25
  split
  · simp
  · split
    · rename_i h
      exact (numG_bd h).1
    · simp
theorem rdV_bd25 (xs : List Int) (k : Nat) : 0 ≤ rdV25 xs k ∧ rdV25 xs k ≤ 4611686018427387904 := rdN_bd25 _ _
theorem numOf_numG (A : Nat → Addr) (xs : List Int) : numOf (A 0) (A 1) (A 2) xs 0 4611686018427387904 = match numG xs with | .inl r => .inl r | .inr c => .inr (A c) := by
  unfold numOf numG
  cases dec 0 0 xs with
  | fin => rfl
  | shape => rfl
  | ok u n =>
    simp only
    split <;> rfl
/-- the reader's next number, whatever it has met. -/
theorem num_rdG (A : Nat → Addr) (B g : Nat) (xs : List Int) (s : RdG) (w : World) (h : Rdr w B g xs s.p (s.bad.map A)) (hx : xs.length ≤ 1000000000) (hbyte : ∀ x ∈ xs, 0 ≤ x ∧ x ≤ 255) (he : Errs3 w (A 0) (A 1) (A 2)) :
    Calls Tryz.prog 35 #[.pointer (some ⟨g, 0, none⟩), .int .i64 0, .int .i64 4611686018427387904] w fun e w' =>
      e = .returned (.int .i64 (rdN25 xs s).1) ∧ Rdr w' B g xs (rdN25 xs s).2.p ((rdN25 xs s).2.bad.map A) ∧ w.grownBy w' (some g) := by
  obtain ⟨p, bad⟩ := s
  cases bad with
  | some c =>
    refine (num_stopped B g p xs _ _ (A c) w h).mono ?_
    rintro e w' ⟨rfl, rfl⟩
    exact ⟨rfl, h, ⟨rfl, rfl, rfl, Nat.le_refl _, fun _ _ _ => rfl⟩⟩
  | none =>
    have hn := numOf_numG A (xs.drop p)
    unfold rdN25
    cases hc : numG (xs.drop p) with
    | inl r =>
      obtain ⟨x, n⟩ := r
      rw [hc] at hn
      exact num_good B g p n xs _ _ x (A 0) (A 1) (A 2) w h hx hbyte he hn
    | inr c =>
      rw [hc] at hn
      exact num_bad B g p xs _ _ (A 0) (A 1) (A 2) (A c) w h hx hbyte he hn

/-! what is answered -/
def rpO (xs : List Int) : Opv := mkO (rdV25 xs 0) (rdV25 xs 1) (fun p => rdV25 xs (p + 2))
/-- the error: its number, whether there is a place around it, the place. -/
def rpF (xs : List Int) : Int × Bool × Int :=
  if 256 < xs.length then (105, false, 0) else
  match (rdS25 xs 8).bad with
  | some c => (101 + (c : Int), true, ((rdS25 xs 8).p : Int))
  | none => if (rdS25 xs 8).p < xs.length then (102, true, ((rdS25 xs 8).p : Int)) else (opE (rpO xs), false, 0)
def rpR (xs : List Int) : Opv := if (rpF xs).1 = 0 then rpO xs else zeO
theorem rp_bad {xs : List Int} (h : (rpF xs).1 ≠ 0) : rpR xs = zeO := if_neg h
theorem rp_many {xs : List Int} (h : 256 < xs.length) : rpF xs = (105, false, 0) := if_pos h
theorem rp_err {xs : List Int} (h : ¬ 256 < xs.length) {c : Nat} (hc : (rdS25 xs 8).bad = some c) : rpF xs = (101 + (c : Int), true, ((rdS25 xs 8).p : Int)) := by
  unfold rpF
  rw [if_neg h, hc]
theorem rp_left {xs : List Int} (h : ¬ 256 < xs.length) (hc : (rdS25 xs 8).bad = none) (hl : (rdS25 xs 8).p < xs.length) : rpF xs = (102, true, ((rdS25 xs 8).p : Int)) := by
  unfold rpF
  rw [if_neg h, hc]
  exact if_pos hl
theorem rp_end {xs : List Int} (h : ¬ 256 < xs.length) (hc : (rdS25 xs 8).bad = none) (hl : ¬ (rdS25 xs 8).p < xs.length) : rpF xs = (opE (rpO xs), false, 0) ∧ rpR xs = opR (rpO xs) := by
  have : rpF xs = (opE (rpO xs), false, 0) := by
    unfold rpF
    rw [if_neg h, hc]
    exact if_neg hl
  refine ⟨this, ?_⟩
  unfold rpR opR
  rw [this]

/-! an operation's own bytes -/
theorem numG_enc {x : Int} (h : 0 ≤ x ∧ x ≤ 4611686018427387904) (t : List Int) : numG (enc (zz x).toNat ++ t) = .inl (x, (enc (zz x).toNat).length) := by
  have hz := zz_lo x
  have hz2 := zz_hi x (by omega) (by omega)
  unfold numG
  rw [dec_enc0 _ _ (by omega)]
  simp only
  rw [Int.toNat_of_nonneg hz, uz_zz, if_pos h]
theorem rdS_encs25 {l : List Int} (hl : ∀ x ∈ l, 0 ≤ x ∧ x ≤ 4611686018427387904) (t : List Int) : ∀ k, k ≤ l.length → rdS25 (encs l ++ t) k = ⟨(encs (l.take k)).length, none⟩ ∧ ∀ j, j < k → rdV25 (encs l ++ t) j = l.getD j 0
  | 0, _ => ⟨by simp [rdS25, encs], fun j hj => by omega⟩
  | k + 1, hk => by
    obtain ⟨h1, h2⟩ := rdS_encs25 hl t k (by omega)
    have hx : l.getD k 0 ∈ l := by
      rw [List.getD_eq_getElem?_getD, List.getElem?_eq_getElem (by omega)]
      exact List.getElem_mem _
    have hdrop : (encs l ++ t).drop (encs (l.take k)).length = enc (zz (l.getD k 0)).toNat ++ (encs (l.drop (k + 1)) ++ t) := by
      have e : l = l.take k ++ (l.getD k 0 :: l.drop (k + 1)) := by
        have := List.take_append_drop k l
        rw [List.drop_eq_getElem_cons (show k < l.length by omega)] at this
        rw [List.getD_eq_getElem?_getD, List.getElem?_eq_getElem (show k < l.length by omega)]
        exact this.symm
      have e2 : encs l = encs (l.take k) ++ (enc (zz (l.getD k 0)).toNat ++ encs (l.drop (k + 1))) := by
        conv => lhs; rw [e]
        rw [encs_append, encs_cons]
      rw [e2, List.append_assoc, List.drop_left]
      simp
    have hn : rdN25 (encs l ++ t) (rdS25 (encs l ++ t) k) = (l.getD k 0, ⟨(encs (l.take (k + 1))).length, none⟩) := by
      rw [h1]
      unfold rdN25
      simp only
      rw [hdrop, numG_enc (hl _ hx)]
      simp only
      rw [take_snoc_getD l k (by omega), encs_snoc, List.length_append]
    refine ⟨by rw [rdS_next25, hn], fun j hj => ?_⟩
    rcases Nat.lt_or_ge j k with h | h
    · exact h2 j h
    · obtain rfl : j = k := by omega
      unfold rdV25
      rw [hn]
theorem rpO_encs {o : Opv} (h : OpOk o) (t : List Int) : rdS25 (encs (nums o) ++ t) 8 = ⟨(encs (nums o)).length, none⟩ ∧ rpO (encs (nums o) ++ t) = o := by
  obtain ⟨h1, h2⟩ := rdS_encs25 h.nums t 8 (by simp [nums])
  refine ⟨by rw [h1, List.take_of_length_le (by simp [nums])], ?_⟩
  unfold rpO
  show (⟨rdV25 _ 0, rdV25 _ 1, rdV25 _ 2, rdV25 _ 3, rdV25 _ 4, rdV25 _ 5, rdV25 _ 6, rdV25 _ 7⟩ : Opv) = o
  rw [h2 0 (by decide), h2 1 (by decide), h2 2 (by decide), h2 3 (by decide), h2 4 (by decide), h2 5 (by decide), h2 6 (by decide), h2 7 (by decide)]
  rfl
theorem encs_short {o : Opv} (h : OpOk o) : (encs (nums o)).length ≤ 80 := encs_len (nums o) h.big
/-- All of its bytes are read as it is. -/
theorem rp_back {o : Opv} (h : OpOk o) : rpF (encs (nums o)) = (0, false, 0) ∧ rpR (encs (nums o)) = o := by
  have hs := encs_short h
  obtain ⟨h1, h2⟩ := rpO_encs h []
  rw [List.append_nil] at h1 h2
  obtain ⟨h3, h4⟩ := rp_end (xs := encs (nums o)) (by omega) (by rw [h1]) (by rw [h1]; simp)
  rw [h2, op_fine.2 h] at h3
  refine ⟨h3, ?_⟩
  rw [h4, h2]
  unfold opR
  rw [if_pos (op_fine.2 h)]
/-- One byte too many is told. -/
theorem rp_more {o : Opv} (h : OpOk o) : rpF (encs (nums o) ++ [0]) = (102, true, ((encs (nums o)).length : Int)) := by
  have hs := encs_short h
  obtain ⟨h1, _⟩ := rpO_encs h [0]
  have := rp_left (xs := encs (nums o) ++ [0]) (by simp; omega) (by rw [h1]) (by rw [h1]; simp)
  rw [this, h1]
theorem dec_on : ∀ (l : List Int) (i u a n : Nat) (t : List Int), dec i u l = .ok a n → dec i u (l ++ t) = .ok a n
  | [], i, u, a, n, t, h => by simp [dec] at h
  | c :: l, i, u, a, n, t, h => by
    rw [dec] at h
    rw [List.cons_append, dec]
    split at h
    · cases h
    · rename_i h1
      rw [if_neg h1]
      split at h
      · rename_i h2
        rw [if_pos h2]; exact h
      · rename_i h2
        rw [if_neg h2]
        exact dec_on l _ _ _ _ t h
theorem numG_on {xs t : List Int} {r : Int × Nat} (h : numG xs = .inl r) : numG (xs ++ t) = .inl r := by
  unfold numG at h ⊢
  cases hd : dec 0 0 xs with
  | fin => rw [hd] at h; cases h
  | shape => rw [hd] at h; cases h
  | ok u n =>
    rw [hd] at h
    rw [dec_on _ _ _ _ _ t hd]
    exact h
/-- what was read without an error is read so too where more follows. -/
theorem rdS_on25 (xs t : List Int) : ∀ k, (rdS25 xs k).bad = none → rdS25 (xs ++ t) k = rdS25 xs k ∧ (rdS25 xs k).p ≤ xs.length
  | 0, _ => ⟨rfl, Nat.zero_le _⟩
  | k + 1, h => by
    rw [rdS_next25] at h
    have hk : (rdS25 xs k).bad = none := by
      unfold rdN25 at h
      split at h
      · rename_i c hc
        rw [hc] at h; cases h
      · assumption
    obtain ⟨h1, h2⟩ := rdS_on25 xs t k hk
    rw [rdS_next25, rdS_next25, h1]
    unfold rdN25 at h ⊢
    rw [hk] at h ⊢
    simp only at h ⊢
    cases hn : numG (xs.drop (rdS25 xs k).p) with
    | inl r =>
      obtain ⟨x, n⟩ := r
      have hn2 := numG_on (t := t) hn
      have hb := (numG_bd hn).2
      rw [List.drop_append_of_le_length h2, hn2]
      refine ⟨rfl, ?_⟩
      simp only [List.length_drop] at hb ⊢
      omega
    | inr c =>
      rw [hn] at h
      cases h
/-- Too few of its bytes: that is told. -/
theorem rp_less {o : Opv} (h : OpOk o) {n : Nat} (hn : n < (encs (nums o)).length) : (rpF ((encs (nums o)).take n)).1 ≠ 0 := by
  have hs := encs_short h
  have hl : ((encs (nums o)).take n).length = n := by rw [List.length_take]; omega
  cases hb : (rdS25 ((encs (nums o)).take n) 8).bad with
  | some c =>
    rw [rp_err (by omega) hb]
    show (101 + (c : Int)) ≠ 0
    omega
  | none =>
    obtain ⟨h1, h2⟩ := rdS_on25 ((encs (nums o)).take n) ((encs (nums o)).drop n) 8 hb
    rw [List.take_append_drop] at h1
    obtain ⟨h3, _⟩ := rpO_encs h []
    rw [List.append_nil] at h3
    rw [h3] at h1
    rw [← h1] at h2
    simp only at h2
    omega
/-- Unlike operations have unlike bytes. -/
theorem encs_inj {o p : Opv} (ho : OpOk o) (hp : OpOk p) (h : encs (nums o) = encs (nums p)) : o = p := by
  have h1 := (rp_back ho).2
  rw [h, (rp_back hp).2] at h1
  exact h1.symm
end Go.Proofs.YtongpgnnhpbcpaaGreatDoor
