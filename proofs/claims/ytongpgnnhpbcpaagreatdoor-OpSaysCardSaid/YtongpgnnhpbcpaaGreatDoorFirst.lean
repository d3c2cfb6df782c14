import Derived.Test.YtongpgnnhpbcpaaGreatDoorReader
namespace Go.Proofs.YtongpgnnhpbcpaaGreatDoor
open Go.RowKit

/-- what reading one number of bytes comes to. -/
inductive Dec where
  | fin | shape | ok (u n : Nat)

def dec (i u : Nat) : List Int → Dec
  | [] => .fin
  | c :: t => if (i = 9 ∧ 1 < c) ∨ (0 < i ∧ c = 0) then .shape else if c < 128 then .ok (u + c.toNat * 128 ^ i) (i + 1) else dec (i + 1) (u + (c.toNat % 128) * 128 ^ i) t

def decVal (eEnd eShape : Value) : Dec → Value
  | .fin => .tuple #[.int .i64 0, .int .i64 0, eEnd]
  | .shape => .tuple #[.int .i64 0, .int .i64 0, eShape]
  | .ok u n => .tuple #[.int .i64 (uz (u : Int)), .int .i64 (n : Int), .nilIface]

theorem pow7 (k : Nat) : (2 : Nat) ^ (7 * k) = 128 ^ k := by rw [Nat.pow_mul]
theorem pow128 (k : Nat) (h : k ≤ 9) : (128 : Nat) ^ k ≤ 9223372036854775808 := by
  have : (128 : Nat) ^ k ≤ 128 ^ 9 := Nat.pow_le_pow_right (by decide) h
  exact this
theorem pow128' (k : Nat) (h : k < 9) : (128 : Nat) ^ k ≤ 72057594037927936 := by
  have : (128 : Nat) ^ k ≤ 128 ^ 8 := Nat.pow_le_pow_right (by decide) (by omega)
  exact this

/-- one byte more: its seven bits lie above those that were read. -/
theorem or_join (b k : Nat) (x : Int) (hk : k ≤ 9) (hb : b < 128 ^ k) (h0 : 0 ≤ x) (h9 : k = 9 → x ≤ 1) :
    bits .or .u64 (b : Int) (IntKind.u64.wrap (x % 128 * 2 ^ (7 * k))) = ((b + x.toNat % 128 * 128 ^ k : Nat) : Int) ∧ b + x.toNat % 128 * 128 ^ k ≤ 18446744073709551615 := by
  obtain ⟨X, rfl⟩ := Int.eq_ofNat_of_zero_le h0
  have e1 : ((X : Int) % 128 * 2 ^ (7 * k)) = ((X % 128 * 128 ^ k : Nat) : Int) := by
    rw [← pow7 k]; push_cast; rfl
  have hm : X % 128 * 128 ^ k ≤ 9223372036854775808 := by
    rcases Nat.lt_or_ge k 9 with h | h
    · have := pow128' k h
      calc X % 128 * 128 ^ k ≤ 127 * 72057594037927936 := Nat.mul_le_mul (by omega) this
        _ ≤ _ := by decide
    · obtain rfl : k = 9 := by omega
      have := h9 rfl
      calc X % 128 * 128 ^ 9 ≤ 1 * 9223372036854775808 := Nat.mul_le_mul (by omega) (pow128 9 (by omega))
        _ ≤ _ := by decide
  have hp := pow128 k hk
  have hw : IntKind.u64.wrap ((X % 128 * 128 ^ k : Nat) : Int) = ((X % 128 * 128 ^ k : Nat) : Int) := by rw [IntKind.wrap_u64]; omega
  rw [e1, hw, u64_or_nat _ _ (by omega) (by omega), Nat.or_comm, nat_join (7 * k) _ _ (by rw [pow7]; exact Nat.mul_mod_left _ _) (by rw [pow7]; exact hb)]
  simp only [Int.toNat_natCast]
  constructor
  · omega
  · omega

theorem dec_ok (k b : Nat) (x : Int) (t : List Int) (h1 : ¬ (k = 9 ∧ 1 < x)) (h2 : ¬ (0 < k ∧ x = 0)) (h0 : 0 ≤ x) (h3 : x < 128) : dec k b (x :: t) = .ok (b + x.toNat % 128 * 128 ^ k) (k + 1) := by
  rw [dec, if_neg (by omega), if_pos h3, Nat.mod_eq_of_lt (by omega)]
theorem dec_more (k b : Nat) (x : Int) (t : List Int) (h1 : k < 9) (h3 : 128 ≤ x) : dec k b (x :: t) = dec (k + 1) (b + x.toNat % 128 * 128 ^ k) t := by
  rw [dec, if_neg (by omega), if_neg (by omega)]
theorem dec_shape (k b : Nat) (x : Int) (t : List Int) (h : (k = 9 ∧ 1 < x) ∨ (0 < k ∧ x = 0)) : dec k b (x :: t) = .shape := by rw [dec, if_pos h]

/-- a number that is read has at least one byte, all of them there. -/
theorem dec_len : ∀ (l : List Int) (i u a n : Nat), dec i u l = .ok a n → i < n ∧ n ≤ i + l.length
  | [], i, u, a, n, h => by simp [dec] at h
  | c :: t, i, u, a, n, h => by
    rw [dec] at h
    split at h
    · cases h
    · split at h
      · cases h; simp
      · have := dec_len t _ _ _ _ h
        simp; omega

/-- the rounds of first. -/
def DecRel (xs : List Int) (u i : Value) : Prop :=
  ∃ (k : Nat) (a : Nat), i = .int .i64 (k : Int) ∧ u = .int .u64 (a : Int) ∧ k ≤ 9 ∧ k ≤ xs.length ∧ a < 128 ^ k ∧ dec 0 0 xs = dec k a (xs.drop k)

theorem decRel_step {xs : List Int} {k b : Nat} {x : Int} (hk : k < 9) (hlt : k < xs.length) (hb : b < 128 ^ k) (h128 : 128 ≤ x) (hd : dec 0 0 xs = dec k b (xs.drop k)) (hx : xs.drop k = x :: xs.drop (k + 1)) :
    DecRel xs (.int .u64 (bits .or .u64 (b : Int) (IntKind.u64.wrap (x % 128 * 2 ^ (7 * k))))) (.int .i64 ((k : Int) + 1)) := by
  refine ⟨k + 1, _, rfl, by rw [(or_join b k x (by omega) hb (by omega) (by omega)).1], by omega, by omega, ?_, ?_⟩
  · rw [Nat.pow_succ]
    have : x.toNat % 128 * 128 ^ k ≤ 127 * 128 ^ k := Nat.mul_le_mul_right _ (by omega)
    omega
  · rw [hd, hx, dec_more k b x _ hk h128]

set_option maxHeartbeats 1600000 in
theorem first_any (v : Value) (xs : List Int) (eEnd eShape : Value) (w : World) (h : Reads .u8 w v xs) (hx : xs.length ≤ 1000000000) (hbyte : ∀ x ∈ xs, 0 ≤ x ∧ x ≤ 255)
    (h1 : w.cell? ⟨7, 0, none⟩ = some eEnd) (h2 : w.cell? ⟨4, 0, none⟩ = some eShape) :
    Calls Tryz.prog 60 #[v] w fun e w' => e = .returned (decVal eEnd eShape (dec 0 0 xs)) ∧ ∃ m, w' = w.drewN m := by
  have hr := hidden h
  obtain ⟨a, n, c, rfl, en, hnc, hcm, hn, _⟩ := h
  subst en
  have hbyte' := hidden hbyte
  clear hn hbyte
  go_enter Tryz.func60, Tryz.ntmps60
  go_wp2_with fail
  go_loop [5, 6] (fun u i => DecRel xs u i) (fun _ i => xs.length - (intOf i).toNat)
  case atStart => exact ⟨0, 0, rfl, rfl, by omega, by omega, by simp, by simp⟩
  case round =>
    obtain ⟨k, b, rfl, rfl, hk9, hk, hb, hd⟩ := hrel
    have hd' := hidden hd
    have hbs := hidden hb
    clear hd hb
    by_cases hlt : k < xs.length
    · obtain ⟨bl, ol, rfl, hc⟩ := hr.out.cell k hlt
      have hby := hbyte'.out (xs.getD k 0) (by rw [List.getD_eq_getElem?_getD, List.getElem?_eq_getElem hlt]; exact List.getElem_mem hlt)
      have hdrop := hidden (show xs.drop k = xs.getD k 0 :: xs.drop (k + 1) by rw [List.drop_eq_getElem_cons hlt, List.getD_eq_getElem?_getD, List.getElem?_eq_getElem hlt]; rfl)
      generalize xs.getD k 0 = x at hc hby hdrop
      have hne : ((k : Int) == (xs.length : Int)) = false := by rw [beq_eq_false_iff_ne]; omega
      by_cases hbad : (k = 9 ∧ 1 < x) ∨ (0 < k ∧ x = 0)
      · have hfin := hidden (show decVal eEnd eShape (dec 0 0 xs) = .tuple #[.int .i64 0, .int .i64 0, eShape] by rw [hd'.out, hdrop.out, dec_shape _ _ _ _ hbad]; rfl)
        rcases Nat.lt_or_ge k 9 with h9 | h9
        · have h9' : ((k : Int) == 9) = false := by rw [beq_eq_false_iff_ne]; omega
          have hx0 : x = 0 := by omega
          have hk0 : (0 : Int) < (k : Int) := by omega
          subst hx0
          clear hbad
          go_wp2_with fail
          go_quiet (fail)
          go_wp2
          go_ret3
          exact ⟨by rw [hfin.out]; rfl, _, rfl⟩
        · obtain rfl : k = 9 := by omega
          rcases Int.lt_or_le 1 x with hx1 | hx1
          · clear hbad
            go_wp2_with fail
            go_quiet (fail)
            go_wp2
            go_ret3
            exact ⟨by rw [hfin.out]; rfl, _, rfl⟩
          · have hx0 : x = 0 := by omega
            subst hx0
            clear hbad
            go_wp2_with fail
            go_quiet (fail)
            go_wp2
            go_ret3
            exact ⟨by rw [hfin.out]; rfl, _, rfl⟩
      · by_cases h128 : x < 128
        · have hj := or_join b k x hk9 hbs.out hby.1 (by omega)
          have hfin := hidden (show decVal eEnd eShape (dec 0 0 xs) = .tuple #[.int .i64 (uz ((b + x.toNat % 128 * 128 ^ k : Nat) : Int)), .int .i64 ((k : Int) + 1), .nilIface] by
            rw [hd'.out, hdrop.out, dec_ok _ _ _ _ (by omega) (by omega) hby.1 h128]; simp [decVal])
          have hj1 := hidden hj.1
          have hj2 := hj.2
          clear hj
          generalize b + x.toNat % 128 * 128 ^ k = r at hj1 hj2 hfin
          have hj3 : (0 : Int) ≤ (r : Int) ∧ (r : Int) ≤ 18446744073709551615 := by omega
          clear hj2
          have close : ∀ w0 : World, Calls Tryz.prog 71 #[.int .u64 (bits BinOp.or IntKind.u64 (b : Int) (IntKind.u64.wrap (x % 128 * 2 ^ (7 * k))))] w0 fun e w' => e = .returned (.int .i64 (uz (r : Int))) ∧ w0 = w' := fun w0 => by
            rw [hj1.out]; exact unzigzag_any _ _ hj3.1 hj3.2
          rcases Nat.lt_or_ge k 9 with h9 | h9
          · have h9' : ((k : Int) == 9) = false := by rw [beq_eq_false_iff_ne]; omega
            rcases Nat.eq_zero_or_pos k with hk0 | hk0
            · have hk0' : ¬ (0 : Int) < (k : Int) := by omega
              clear hk0 hbad
              go_wp2_with fail
              refine (close _).mono ?_
              rintro e w' ⟨rfl, rfl⟩
              go_wp2
              go_ret3
              exact ⟨by rw [hfin.out]; rfl, 0, rfl⟩
            · have hk0' : (0 : Int) < (k : Int) := by omega
              have hx0 : (x == 0) = false := by rw [beq_eq_false_iff_ne]; omega
              clear hk0 hbad
              go_wp2_with fail
              refine (close _).mono ?_
              rintro e w' ⟨rfl, rfl⟩
              go_wp2
              go_ret3
              exact ⟨by rw [hfin.out]; rfl, 0, rfl⟩
          · have hk9' : k = 9 := by omega
            have h9' : ((k : Int) == 9) = true := by rw [beq_iff_eq]; omega
            have hx1 : ¬ 1 < x := by omega
            have hk0' : (0 : Int) < (k : Int) := by omega
            have hx0 : (x == 0) = false := by rw [beq_eq_false_iff_ne]; omega
            clear hk9' hbad h9
            go_wp2_with fail
            refine (close _).mono ?_
            rintro e w' ⟨rfl, rfl⟩
            go_wp2
            go_ret3
            exact ⟨by rw [hfin.out]; rfl, 0, rfl⟩
        · have h128' : 128 ≤ x := by omega
          have h9 : k < 9 := by
            rcases Nat.lt_or_ge k 9 with h | h
            · exact h
            · omega
          have h9' : ((k : Int) == 9) = false := by rw [beq_eq_false_iff_ne]; omega
          have hstep := hidden (decRel_step (xs := xs) h9 hlt hbs.out h128' hd'.out hdrop.out)
          have hx0 : (x == 0) = false := by rw [beq_eq_false_iff_ne]; omega
          clear hbad
          rcases Nat.eq_zero_or_pos k with hk0 | hk0
          · have hk0' : ¬ (0 : Int) < (k : Int) := by omega
            clear hk0
            go_wp2
            go_round
            case rel => exact hstep.out
            case measure => simp [intOf]; omega
          · have hk0' : (0 : Int) < (k : Int) := by omega
            clear hk0
            go_wp2
            go_round
            case rel => exact hstep.out
            case measure => simp [intOf]; omega
    · have hkl : ((k : Int) == (xs.length : Int)) = true := by rw [beq_iff_eq]; omega
      have hfin := hidden (show decVal eEnd eShape (dec 0 0 xs) = .tuple #[.int .i64 0, .int .i64 0, eEnd] by rw [hd'.out, List.drop_eq_nil_of_le (by omega)]; rfl)
      clear hlt
      go_wp2_with fail
      go_quiet (fail)
      go_wp2
      go_ret3
      exact ⟨by rw [hfin.out]; rfl, _, rfl⟩
end Go.Proofs.YtongpgnnhpbcpaaGreatDoor
