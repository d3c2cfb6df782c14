import Derived.Test.YtdohkbneapdkeaaDoorRef
import Derived.Laws.AppendOwnNone
namespace Go.Proofs.YtdohkbneapdkeaaDoor
open Go.RowKit

theorem dec_enc : ∀ (L u i a : Nat) (t : List Int), (enc u).length = L → a + u * 128 ^ i ≤ 18446744073709551615 → (0 < i → u ≠ 0) → i + L ≤ 10 → dec i a (enc u ++ t) = .ok (a + u * 128 ^ i) (i + (enc u).length) := by
  intro L
  induction L with
  | zero => intro u i a t hL; have := enc_pos u; omega
  | succ L ih =>
    intro u i a t hL hb h0 hi
    have h9 : i = 9 → u ≤ 1 := by
      intro h9; subst h9
      have e : (128 : Nat) ^ 9 = 9223372036854775808 := by decide
      rw [e] at hb
      omega
    by_cases hs : u < 128
    · rw [enc_small u hs] at hL ⊢
      simp only [List.cons_append, List.nil_append, List.length_cons, List.length_nil]
      rw [dec, if_neg (by omega), if_pos (by omega), Int.toNat_natCast]
    · rw [enc_big u hs] at hL ⊢
      simp only [List.length_cons, List.cons_append] at hL ⊢
      have hi9 : i ≠ 9 := fun h => by have := h9 h; omega
      rw [dec, if_neg (by omega), if_neg (by omega), Int.toNat_natCast]
      have e1 : (u % 128 + 128) % 128 = u % 128 := by omega
      have e2 : a + u % 128 * 128 ^ i + u / 128 * 128 ^ (i + 1) = a + u * 128 ^ i := by
        have : u * 128 ^ i = (128 * (u / 128) + u % 128) * 128 ^ i := by rw [Nat.div_add_mod]
        rw [this, Nat.pow_succ, Nat.add_mul, Nat.mul_comm 128 (u / 128), Nat.mul_assoc, Nat.mul_comm 128 (128 ^ i)]
        omega
      rw [e1, ih (u / 128) (i + 1) _ t (by omega) (by rw [e2]; exact hb) (by intro _; omega) (by omega), e2]
      congr 1
      omega

theorem dec_enc0 (u : Nat) (t : List Int) (h : u ≤ 18446744073709551615) : dec 0 0 (enc u ++ t) = .ok u (enc u).length := by
  have := dec_enc _ u 0 0 t rfl (by simpa using h) (by omega) (by have := enc_ten u h; omega)
  simpa using this

theorem numOf_enc (aE aS aR : Addr) (n low high : Int) (t : List Int) (h0 : -9223372036854775808 ≤ n) (h1 : n ≤ 9223372036854775807) :
    numOf aE aS aR (enc (zz n).toNat ++ t) low high = if low ≤ n ∧ n ≤ high then .inl (n, (enc (zz n).toNat).length) else .inr aR := by
  have hz := zz_lo n
  have hz2 := zz_hi n h0 h1
  unfold numOf
  rw [dec_enc0 _ _ (by omega)]
  simp only
  rw [Int.toNat_of_nonneg hz, uz_zz]

/-- new memory that was just filled reads as what is in it. -/
theorem reads_new {k : IntKind} {w : World} {e : TypeId} (cs : Array Value) (xs : List Int) (n : Nat) (hn : xs.length = n) (hc : cs = (xs.map (Value.int k)).toArray) (hm : n ≤ 1000000) : Reads k (w.alloc (.cells cs e)) (.slice (some ⟨w.heap.size, 0, none⟩) n n) xs := by
  subst hc
  refine ⟨_, n, n, rfl, hn, Nat.le_refl _, by unfold maxLen; omega, (fun h => by cases h), fun ad had i hi => ?_⟩
  obtain rfl := Option.some.inj had
  refine ⟨rfl, ?_⟩
  rw [World.cell?_alloc_at _ _ _ _ rfl, Nat.zero_add, List.getElem?_toArray, List.getElem?_map, List.getD_eq_getElem?_getD, List.getElem?_eq_getElem (by omega)]
  rfl

/-- 'append(s, x...)', s of the call's own, x whatever it is. -/
theorem wpList_app {P : Program} {w : World} {ops : Array Oper} {rest : List Oper} {o : Oper} {a : Act} {Q : Exit → Act → World → Prop} (hgd : o.guard = none) (s x : Operand) (t : TypeId)
    (ho : o.op = .call { callee := .builtin .append, args := #[s, x], argTypes := #[t, t] })
    (e : TypeId) {z : Value} {bytes : Nat} (ht : P.underlying t = some (.slice e)) (hi : (P.info? e).map (fun i => (i.zero, i.size, i.bytes)) = some (some z, 1, bytes)) (hzs : z.cells.size = 1) (hb64 : bytes ≤ 64)
    (base : Nat) (v : Value) (n : Nat) (xs : List Value) (hs : a.eval s = v) (hown : w.ownsRow base e 1 v n xs)
    {k : IntKind} {xv : Value} {ys : List Int} (hx : a.eval x = xv) (hr : Reads k w xv ys) (hn : n ≤ 1099511627776) (hm : ys.length ≤ 1099511627776) (hbase : base ≤ w.heap.size)
    (h : ∀ v' w', w'.ownsRow base e 1 v' (n + ys.length) (xs ++ ys.map (Value.int k)) → Below base w w' → wpList P ops Q rest (a.put o.dst v') w') : wpList P ops Q (o :: rest) a w := by
  obtain ⟨i, hi0, h1, h2, h3⟩ := info_parts hi
  have hr0 := hr
  obtain ⟨ao, len, c, rfl, el, hlc, hcm, hnone, _⟩ := hr
  subst el
  cases ao with
  | none =>
    obtain ⟨hl, rfl⟩ := hnone rfl
    have : ys = [] := List.eq_nil_of_length_eq_zero hl
    subst this
    refine wpList_append_own_none hgd s x t ho base e i 1 ht hi0 v n xs hs hown hx ?_
    exact h v w (by simpa using hown) (Below.refl _ _)
  | some ad =>
    refine wpList_append_own w hgd s x t ho base e i z 1 bytes ht hi0 h1 h2 h3 hzs (by decide) v n xs hs hown ad ys.length c (ys.map (Value.int k)) hx (by simp) (hr0.cells ad rfl) (ints_oneCell _ _) (by unfold maxLen; omega) ?_ hbase ?_
    · calc (n + ys.length) * bytes ≤ (1099511627776 + 1099511627776) * 64 := Nat.mul_le_mul (by omega) hb64
        _ ≤ _ := by decide
    · intro v' w' h2 h3 _
      exact h v' w' h2 ((Below.refl base w).grown h3 hbase (fun g hg => (hown.lt g hg).1))

theorem enc1 : encs [-1, 64] = [1, 128, 1] := by
  have e1 : zz (-1) = 1 := by decide
  have e2 : zz 64 = 128 := by decide
  simp only [encs, List.flatMap_cons, List.flatMap_nil, e1, e2]
  have h1 : enc (1 : Int).toNat = [1] := enc_small 1 (by decide)
  have h2 : enc (128 : Int).toNat = [128, 1] := by
    show enc 128 = _
    rw [enc_big 128 (by decide), enc_small _ (by decide)]; rfl
  rw [h1, h2]; rfl

/-- the chapter's example. -/
theorem law_first (w : World) : Calls Tryd.prog 8 #[] w fun e w' => e = .returned (.bool true) ∧ Below w.heap.size w w' := by
  have hl := hidden (reads_new (k := .i64) (w := w) (e := 2) #[.int .i64 (-1), .int .i64 64] [-1, 64] 2 rfl rfl (by decide))
  go_enter Tryd.func8, Tryd.ntmps8
  go_wp2_with fail
  refine (put_any _ _ [] [-1, 64] _ (Reads.nil _ _) hl.out (by decide) (by decide) (by decide)).mono ?_
  rintro e w1 ⟨v1, rfl, hown, hb⟩
  have hb1 := hidden (((Below.refl w.heap.size w).alloc (Nat.le_refl _) (.cells #[.int .i64 (-1), .int .i64 64] 2)).trans (hb.mono (by simp)))
  have hr1 := hidden (reads_of_own (k := .u8) (xs := [1, 128, 1]) (by rw [List.nil_append, enc1] at hown; exact hown))
  clear hown hb
  have hr2 := hidden (hr1.out.below ((Below.refl w1.heap.size w1).alloc (Nat.le_refl _) (.cells #[.int .u8 1, .int .u8 128, .int .u8 1] 5)) (Nat.le_refl _))
  have hl2 := hidden (reads_new (k := .u8) (w := w1) (e := 5) #[.int .u8 1, .int .u8 128, .int .u8 1] [1, 128, 1] 3 rfl rfl (by decide))
  have hb2 := hidden (hb1.out.alloc hb1.out.size (.cells #[.int .u8 1, .int .u8 128, .int .u8 1] 5))
  go_wp2_with fail
  refine (sameBytes_any _ _ [1, 128, 1] [1, 128, 1] _ hr2.out hl2.out (by decide)).mono ?_
  rintro e w2 ⟨rfl, m, rfl⟩
  go_wp2
  go_ret
  exact ⟨rfl, hb2.out.trans ⟨rfl, rfl, rfl, Nat.le_refl _, fun _ _ => rfl⟩⟩
theorem Rdr.same {w w' : World} {B g p : Nat} {xs : List Int} {bad : Option Addr} (h : Rdr w B g xs p bad) (hb : ∀ i, i < w.heap.size → w'.heap[i]? = w.heap[i]?) : Rdr w' B g xs p bad := by
  obtain ⟨hB, hp, bv, errv, hg, hown, he⟩ := h
  refine ⟨hB, hp, bv, errv, by rw [hb g (Array.getElem?_eq_some_iff.1 hg).1]; exact hg, ⟨hown.1, ?_⟩, ?_⟩
  · rcases hown.2 with h2 | ⟨gb, cap, cur, hv, hgb, hh, r⟩
    · exact .inl h2
    · exact .inr ⟨gb, cap, cur, hv, hgb, by rw [hb gb (Array.getElem?_eq_some_iff.1 hh).1]; exact hh, r⟩
  · cases bad with
    | none => exact he
    | some a =>
      obtain ⟨ga, e1, e2, e3, e4⟩ := he
      exact ⟨ga, e1, e2, e3, by rw [hb ga (Array.getElem?_eq_some_iff.1 e4).1]; exact e4⟩
theorem below_all {w w' : World} (h : Below w.heap.size w w') : ∀ i, i < w.heap.size → w'.heap[i]? = w.heap[i]? := fun i hi => h.block i hi
theorem below_grown {w w1 w2 : World} {g B : Nat} (h : Below w.heap.size w w1) (hg : w1.grownBy w2 (some g)) (hB : B ≤ g) (hw : w.heap.size ≤ B) : Below w.heap.size w w2 :=
  h.grown hg h.size (fun k hk => by cases hk; omega)
theorem errs_of {w : World} {A : Nat → Addr} (h : Sents w A) : Errs3 w (A 0) (A 1) (A 2) := ⟨h.cell 0 (by decide), h.cell 1 (by decide), h.cell 2 (by decide)⟩
theorem below_drewN {w w1 : World} {B m : Nat} (h : Below B w w1) : Below B w (w1.drewN m) := h.trans ⟨rfl, rfl, rfl, Nat.le_refl _, fun _ _ => rfl⟩


theorem reads_take {k : IntKind} {w : World} {a : Option Addr} {n c m : Nat} {xs : List Int} (h : Reads k w (.slice a n c) xs) (hm : m ≤ n) : Reads k w (.slice a m c) (xs.take m) := by
  obtain ⟨a', len, cap, e, h1, h2, h3, h4, h5⟩ := h
  simp only [Value.slice.injEq] at e
  obtain ⟨rfl, rfl, rfl⟩ := e
  refine ⟨_, m, _, rfl, by simp; omega, by omega, h3, fun h => ⟨by have := (h4 h).1; omega, (h4 h).2⟩, fun ad had i hi => ?_⟩
  obtain ⟨h6, h7⟩ := h5 ad had i (by omega)
  refine ⟨h6, ?_⟩
  rw [h7]
  simp [List.getD_eq_getElem?_getD, hi]
theorem reads_slice {k : IntKind} {w : World} {v : Value} {xs : List Int} (h : Reads k w v xs) : ∃ a c, v = .slice a xs.length c := by
  obtain ⟨a', l', c', e1, e2, _⟩ := h
  exact ⟨a', c', by rw [e1, e2]⟩
theorem reads_some {k : IntKind} {w : World} {v : Value} {xs : List Int} (h : Reads k w v xs) (h0 : 0 < xs.length) : ∃ b o c, v = .slice (some ⟨b, o, none⟩) xs.length c := by
  obtain ⟨a, c, rfl⟩ := reads_slice h
  obtain ⟨b, o, rfl, _⟩ := h.cell 0 h0
  exact ⟨b, o, c, rfl⟩
theorem own_some {w : World} {B : Nat} {e : TypeId} {v : Value} {n : Nat} {xs : List Value} (h : w.ownsRow B e 1 v n xs) (h0 : 0 < n) : ∃ g c, v = .slice (some ⟨g, 0, none⟩) n c ∧ B ≤ g := by
  rcases h.2 with ⟨_, h2⟩ | ⟨g, cap, cur, rfl, hb, _⟩
  · omega
  · exact ⟨g, cap, rfl, hb⟩
end Go.Proofs.YtdohkbneapdkeaaDoor
