/-
  root.put, root.number, root.item, root.check, bytes.Equal.
-/
import Derived.Test.YtcjjjoodnddoeaaDoorRootMath
import Derived.Test.YtcjjjoodnddoeaaDoorDiskMem
import Derived.Laws.BytesArg
namespace Go.Proofs.YtcjjjoodnddoeaaDoor
open Go.RowKit
set_option linter.unusedVariables false

/-- block g holds these bytes. -/
def ByteAt (w : World) (g : Nat) (bs : List Int) : Prop := w.heap[g]? = some (.cells (secV bs).toArray 5 (0, 0))
theorem ByteAt.cell {w : World} {g : Nat} {bs : List Int} (h : ByteAt w g bs) {i : Nat} (hi : i < bs.length) : w.cell? ⟨g, i, none⟩ = some (.int .u8 (bs.getD i 0)) := by
  rw [cell_of_row _ _ _ _ _ _ h, List.getElem?_toArray, secV, List.getElem?_map, List.getD_eq_getElem?_getD, List.getElem?_eq_getElem hi]
  rfl
theorem ByteAt.frozen {w : World} {g : Nat} {bs : List Int} (h : ByteAt w g bs) (i : Nat) : w.frozen? ⟨g, i, none⟩ = false := by
  have := h
  unfold ByteAt at this
  simp [World.frozen?, this]
theorem ByteAt.set {w : World} {g : Nat} {bs : List Int} (h : ByteAt w g bs) (i : Nat) (x : Int) : ByteAt (w.setCell ⟨g, i, none⟩ (.int .u8 x)) g (bs.set i x) := by
  unfold ByteAt
  rw [heap_setCell_row h]
  simp [secV]
theorem ByteAt.block {w w' : World} {g : Nat} {bs : List Int} (h : ByteAt w g bs) (hb : w'.heap[g]? = w.heap[g]?) : ByteAt w' g bs := hb.trans h
theorem ByteAt.lt {w : World} {g : Nat} {bs : List Int} (h : ByteAt w g bs) : g < w.heap.size := (Array.getElem?_eq_some_iff.1 h).1
/-- put's rounds. -/
def PutsAt (A B C : List Int) (n : Int) (g : Nat) (w0 : World) (i : Value) (w : World) : Prop := ∃ k : Nat, k ≤ B.length ∧ i = .int .i64 (k : Int) ∧ ByteAt w g (A ++ lob k n ++ B.drop k ++ C) ∧ Trd (· = g) w0 w
theorem puts_set {A B C : List Int} {n : Int} {k : Nat} (h : k < B.length) : (A ++ lob k n ++ B.drop k ++ C).set (A.length + k) (n / 256 ^ k % 256) = A ++ lob (k + 1) n ++ B.drop (k + 1) ++ C := by
  rw [lob_snoc, List.drop_eq_getElem_cons h]
  generalize B[k] = y
  generalize B.drop (k + 1) = r
  rw [List.append_assoc (A ++ lob k n), List.set_append_right _ _ (by simp [lob_len])]
  simp [lob_len]
def PutEnd (A B C : List Int) (n : Int) (g : Nat) (w : World) (e : Ending) (w' : World) : Prop := e = .returned (.tuple #[]) ∧ ByteAt w' g (A ++ lob B.length n ++ C) ∧ Trd (· = g) w w'
theorem put_any6 (A B C : List Int) (n : Int) (g c : Nat) (w : World) (hg : ByteAt w g (A ++ B ++ C)) (hB : B.length ≤ 6) (h0 : 0 ≤ n) (h1 : n ≤ 1099511627776) (hA : A.length ≤ 1000) :
    Calls Tryd.prog 24 #[.slice (some ⟨g, A.length, none⟩) B.length c, .int .i64 n] w (PutEnd A B C n g w) := by
  have hs := hidden (show PutsAt A B C n g w (.int .i64 0) w from ⟨0, Nat.zero_le _, rfl, by simpa [lob] using hg, Trd.refl _ _⟩)
  clear hg
  have hset := hidden (fun k => @puts_set A B C n k)
  have hend := hidden (show A ++ lob B.length n ++ B.drop B.length ++ C = A ++ lob B.length n ++ C by simp)
  have hAL := hidden (fun k (hk : k < B.length) => show A.length + k < (A ++ lob k n ++ B.drop k ++ C).length by simp [lob_len]; omega)
  go_enter Tryd.func24, Tryd.ntmps24
  go_wp2_with fail
  go_loopw [7] (fun i wr => PutsAt A B C n g w i wr) (fun i _ => B.length - (RowKit.intOf i).toNat)
  case atStart => exact hs.out
  case round =>
    clear hs
    obtain ⟨k, hk, rfl, hb, ht⟩ := hrel
    replace ht := hidden ht
    by_cases hlt : k < B.length
    · have c0 := hb.cell (hAL.out k hlt)
      have f0 := hb.frozen (A.length + k)
      have hb2 := hidden (hb.set (A.length + k) (n / 256 ^ k % 256))
      rw [hset.out k hlt] at hb2
      have hp : (n / 2 ^ (8 * (k : Int)).toNat) = n / 256 ^ k := by
        rw [show (8 * (k : Int)).toNat = 8 * k by omega, Nat.pow_mul 2 8 k |> fun h => show (2 : Int) ^ (8 * k) = 256 ^ k by rw [Int.pow_mul]; rfl]
      have hki : (k : Int) < (B.length : Int) := by omega
      have h8 : (k : Int) ≤ 6 := by omega
      clear hb
      generalize hv : (A ++ lob k n ++ B.drop k ++ C).getD (A.length + k) 0 = v at c0
      clear hv
      go_wp2
      go_roundw
      case rel => exact ⟨k + 1, by omega, by go_num, hb2.out, ht.out.trans (Trd.setCell _ _ _ rfl)⟩
      case measure => simp [RowKit.intOf]; omega
    · obtain rfl : k = B.length := by omega
      rw [hend.out] at hb
      replace hb := hidden hb
      go_wp2
      go_end0
      exact ⟨rfl, hb.out, ht.out⟩

/-! number -/
theorem reads_part {k : IntKind} {w : World} {b o n c m at_ c' : Nat} {xs : List Int} (h : Reads k w (.slice (some ⟨b, o, none⟩) n c) xs) (hm : at_ + m ≤ n) (hc : m ≤ c') (hc2 : c' ≤ c) : Reads k w (.slice (some ⟨b, o + at_, none⟩) m c') ((xs.drop at_).take m) := by
  obtain ⟨a', len, cap, e, h1, h2, h3, h4, h5⟩ := h
  simp only [Value.slice.injEq] at e
  obtain ⟨rfl, rfl, rfl⟩ := e
  refine ⟨_, m, _, rfl, by simp; omega, hc, Nat.le_trans hc2 h3, (fun h => by cases h), fun ad had i hi => ?_⟩
  obtain rfl := Option.some.inj had
  obtain ⟨h6, h7⟩ := h5 _ rfl (at_ + i) (by omega)
  refine ⟨rfl, ?_⟩
  simp only [Nat.add_assoc] at h7 ⊢
  rw [h7]
  simp [List.getD_eq_getElem?_getD, List.getElem?_drop, hi]
theorem bits_or64 (a b : Nat) (ha : a < 4611686018427387904) (hb : b < 4611686018427387904) (h : a ||| b < 4611686018427387904) : bits .or .i64 (a : Int) (b : Int) = ((a ||| b : Nat) : Int) := by
  have h1 : (BitVec.ofInt 64 (a : Int) ||| BitVec.ofInt 64 (b : Int)).toNat = a ||| b := by
    rw [BitVec.toNat_or, BitVec.ofInt_natCast, BitVec.ofInt_natCast, BitVec.toNat_ofNat, BitVec.toNat_ofNat, Nat.mod_eq_of_lt (by omega), Nat.mod_eq_of_lt (by omega)]
  show IntKind.i64.wrap (((BitVec.ofInt 64 (a : Int) ||| BitVec.ofInt 64 (b : Int)).toNat : Nat) : Int) = _
  rw [h1, IntKind.wrap_i64]
  omega
theorem or_shift6 (a x : Int) (k : Nat) (hk : k < 6) (ha : 0 ≤ a) (ha2 : a < 256 ^ k) (hx : 0 ≤ x) (hx2 : x < 256) : bits .or .i64 a (wrap64 (x * 2 ^ (8 * k))) = a + x * 256 ^ k := by
  obtain ⟨A, rfl⟩ := Int.eq_ofNat_of_zero_le ha
  obtain ⟨X, rfl⟩ := Int.eq_ofNat_of_zero_le hx
  have e2 : (2 : Int) ^ (8 * k) = 256 ^ k := by rw [Int.pow_mul]; rfl
  have hor : (A ||| X * 256 ^ k) = A + X * 256 ^ k := by
    have e1 : (2 : Nat) ^ (8 * k) = 256 ^ k := by rw [Nat.pow_mul]
    have hA : A < 256 ^ k := by
      have : ((A : Nat) : Int) < ((256 ^ k : Nat) : Int) := by rw [Int.natCast_pow]; exact ha2
      omega
    have := Nat.shiftLeft_add_eq_or_of_lt (b := A) (i := 8 * k) (by rw [e1]; exact hA) X
    rw [Nat.shiftLeft_eq, e1] at this
    rw [Nat.or_comm, ← this, Nat.add_comm]
  have hM : 256 ^ k ≤ 1099511627776 := by
    have : 256 ^ k ≤ 256 ^ 5 := Nat.pow_le_pow_right (by decide) (by omega)
    simpa using this
  have hXM : X * 256 ^ k ≤ 255 * 1099511627776 := Nat.mul_le_mul (by omega) hM
  have hA2 : A < 1099511627776 := by
    have : ((A : Nat) : Int) < ((256 ^ k : Nat) : Int) := by rw [Int.natCast_pow]; exact ha2
    omega
  have e4 : ((X : Int) * 256 ^ k) = ((X * 256 ^ k : Nat) : Int) := by rw [Int.natCast_mul, Int.natCast_pow]; rfl
  rw [e2, e4]
  generalize X * 256 ^ k = Y at *
  have e5 : wrap64 (Y : Int) = Y := by unfold wrap64; omega
  rw [e5, bits_or64 A Y (by omega) (by omega) (by rw [hor]; omega), hor]
  omega
theorem unlob_take {bs : List Int} {k : Nat} (h : k < bs.length) : unlob (bs.take (k + 1)) = unlob (bs.take k) + bs.getD k 0 * 256 ^ k := by
  rw [List.take_succ_eq_append_getElem h, unlob_snoc, List.length_take, Nat.min_eq_left (by omega), List.getD_eq_getElem?_getD, List.getElem?_eq_getElem h]
  rfl
def NumberAt (bs : List Int) (w0 : World) (n i : Value) (w : World) : Prop := ∃ k : Nat, k ≤ bs.length ∧ n = .int .i64 (unlob (bs.take k)) ∧ i = .int .i64 (k : Int) ∧ w0 = w
theorem number6_any (v : Value) (bs : List Int) (w : World) (hr : Reads .u8 w v bs) (hl : bs.length ≤ 6) (hb : ∀ x ∈ bs, 0 ≤ x ∧ x < 256) :
    Calls Tryd.prog 29 #[v] w fun e w' => e = .returned (.int .i64 (unlob bs)) ∧ w = w' := by
  obtain ⟨a, c, rfl⟩ := reads_slice hr
  replace hr := hidden hr
  have ht := hidden (fun k => @unlob_take bs k)
  have hb' := hidden hb
  clear hb
  go_enter Tryd.func29, Tryd.ntmps29
  go_wp2_with fail
  go_loopw [3, 8] (fun n i wr => NumberAt bs w n i wr) (fun _ i _ => bs.length - (RowKit.intOf i).toNat)
  case atStart => exact ⟨0, Nat.zero_le _, rfl, rfl, rfl⟩
  case round =>
    obtain ⟨k, hk, rfl, rfl, rfl⟩ := hrel
    by_cases hlt : k < bs.length
    · obtain ⟨bl, o, rfl, c0⟩ := hr.out.cell k hlt
      have hx := hb'.out (bs.getD k 0) (by rw [List.getD_eq_getElem?_getD, List.getElem?_eq_getElem hlt]; exact List.getElem_mem hlt)
      have hn := ht.out k hlt
      have htk : ∀ x ∈ bs.take k, 0 ≤ x ∧ x < 256 := fun x hx => hb'.out x (List.mem_of_mem_take hx)
      have n0 := unlob_lo _ htk
      have n1 := unlob_hi _ htk
      rw [List.length_take, Nat.min_eq_left hk] at n1
      generalize bs.getD k 0 = x at *
      generalize unlob (bs.take k) = n at *
      have hor := hidden (or_shift6 n x k (by omega) n0 n1 hx.1 hx.2)
      have hki : (k : Int) < (bs.length : Int) := by omega
      have h8 : (k : Int) ≤ 6 := by omega
      replace hn := hidden hn
      replace n1 := hidden n1
      clear htk
      go_wp2
      go_roundw
      case rel => exact ⟨k + 1, hlt, by rw [hn.out, ← hor.out], by go_num, rfl⟩
      case measure => simp [RowKit.intOf]; omega
    · obtain rfl : k = bs.length := by omega
      have e := hidden (show unlob (bs.take bs.length) = unlob bs by rw [List.take_length])
      go_wp2
      go_ret
      exact ⟨ret_int e.out, rfl⟩
theorem item_any (b o c i : Nat) (w : World) (hi : i < 40) (hc : 128 ≤ c) (hc2 : c ≤ maxLen) :
    Calls Tryd.prog 25 #[.slice (some ⟨b, o, none⟩) 128 c, .int .i64 i] w fun e w' => e = .returned (.slice (some ⟨b, o + (7 + 2 * i), none⟩) 2 (c - (7 + 2 * i))) ∧ w = w' := by
  have hi2 : (i : Int) < 40 := by omega
  unfold maxLen at hc2
  have he := hidden (show Ending.returned (.slice (some ⟨b, o + (7 + i * 2), none⟩) (7 + i * 2 + 2 - (7 + i * 2)) (c - (7 + i * 2))) = .returned (.slice (some ⟨b, o + (7 + 2 * i), none⟩) 2 (c - (7 + 2 * i))) by rw [show 7 + i * 2 + 2 - (7 + i * 2) = 2 by omega, Nat.mul_comm i 2])
  go_enter Tryd.func25, Tryd.ntmps25
  go_wp2
  go_ret
  exact ⟨he.out, rfl⟩

/-! check -/
theorem rtBad_snoc {xs : List Int} {k : Nat} (h : k < xs.length) : rtBad (xs.take (k + 1)) = (rtBad (xs.take k) || (decide (xs.getD k 0 < 0) || decide (8192 < xs.getD k 0))) := by
  rw [List.take_succ_eq_append_getElem h, List.getD_eq_getElem?_getD, List.getElem?_eq_getElem h]
  simp only [rtBad, List.any_append, List.any_cons, List.any_nil, Bool.or_false, Option.getD_some]
theorem rtBad_at {xs : List Int} {k : Nat} (h : k < xs.length) (hb : xs.getD k 0 < 0 ∨ 8192 < xs.getD k 0) : rtBad xs = true := by
  have h1 : xs.getD k 0 ∈ xs := by rw [List.getD_eq_getElem?_getD, List.getElem?_eq_getElem h]; exact List.getElem_mem h
  rw [rtBad, List.any_eq_true]
  exact ⟨_, h1, by simpa using hb⟩
def CheckAt (xs : List Int) (w0 : World) (i : Value) (w : World) : Prop := ∃ k : Nat, k ≤ xs.length ∧ i = .int .i64 (k : Int) ∧ rtBad (xs.take k) = false ∧ w0 = w
theorem reads_max {k : IntKind} {w : World} {v : Value} {xs : List Int} (h : Reads k w v xs) : xs.length ≤ 9223372036854775807 := by
  obtain ⟨a, len, cap, rfl, h1, h2, h3, _⟩ := h
  unfold maxLen at h3
  omega
set_option maxHeartbeats 1000000 in
theorem check_any (A : Nat → Addr) (e : Int) (lv : Value) (xs : List Int) (w : World) (hr : Reads .i64 w lv xs) (hE : ErrsOn [2, 4] w A) :
    Calls Tryd.prog 23 #[.agg #[.int .i64 e, lv]] w fun r w' => r = .returned (errOf A (rtC e xs)) ∧ Below w.heap.size w w' := by
  obtain ⟨a, c, rfl⟩ := reads_slice hr
  have hmax := reads_max hr
  have hb := hidden (fun o => (Below.refl w.heap.size w).alloc (Nat.le_refl _) o)
  have hr1 := hidden (fun o => hr.below (hb.out o) (Nat.le_refl _))
  have k2 := hE 2 (by decide)
  have k4 := hE 4 (by decide)
  have l2 := fun o => (World.cell?_alloc_lt w o _ (World.block_lt_of_cell? w _ k2)).trans k2
  have l4 := fun o => (World.cell?_alloc_lt w o _ (World.block_lt_of_cell? w _ k4)).trans k4
  simp [sentG] at l2 l4
  clear hE k2 k4
  replace hr := hidden hr
  have hsn := hidden (fun k => @rtBad_snoc xs k)
  have hat := hidden (fun k => @rtBad_at xs k)
  by_cases h1 : e < 1 ∨ 1099511627776 < e
  · have hc := hidden (show rtC e xs = 103 by rw [rtC, if_pos h1])
    by_cases h2 : e < 1
    · go_enter Tryd.func23, Tryd.ntmps23
      go_wp2
      go_ret
      exact ⟨by rw [hc.out]; rfl, hb.out _⟩
    · have h3 : 1099511627776 < e := by omega
      go_enter Tryd.func23, Tryd.ntmps23
      go_wp2
      go_ret
      exact ⟨by rw [hc.out]; rfl, hb.out _⟩
  · have h2 : ¬ e < 1 := by omega
    have h3 : ¬ 1099511627776 < e := by omega
    have hc1 := hidden (fun (h : rtBad xs = true) => show rtC e xs = 103 by rw [rtC, if_neg h1, if_pos h])
    have hc2 := hidden (fun (h : rtBad xs = false) => show rtC e xs = if 40 < xs.length then 105 else 0 by rw [rtC, if_neg h1, h]; rfl)
    clear h1
    go_enter Tryd.func23, Tryd.ntmps23
    go_wp2_with fail
    go_loopw [17] (fun i wr => CheckAt xs (w.alloc (.cells #[.int .i64 e, .slice a xs.length c] 30)) i wr) (fun i _ => xs.length - (RowKit.intOf i).toNat)
    case atStart => exact ⟨0, Nat.zero_le _, rfl, rfl, rfl⟩
    case round =>
      obtain ⟨k, hk, rfl, hbad, rfl⟩ := hrel
      replace hbad := hidden hbad
      by_cases hlt : k < xs.length
      · obtain ⟨bl, o, rfl, c0⟩ := (hr1.out (.cells #[.int .i64 e, .slice a xs.length c] 30)).cell k hlt
        have hki : (k : Int) < (xs.length : Int) := by omega
        have h8 : (k : Int) ≤ 9223372036854775806 := by omega
        have hs := hsn.out k hlt
        have ha := hidden (hat.out k hlt)
        generalize xs.getD k 0 = x at *
        rw [hbad.out] at hs
        replace hs := hidden hs
        by_cases x0 : x < 0
        · have hc := hidden (hc1.out (ha.out (.inl x0)))
          go_wp2
          go_ret
          exact ⟨by rw [hc.out]; rfl, hb.out _⟩
        · by_cases x1 : 8192 < x
          · have hc := hidden (hc1.out (ha.out (.inr x1)))
            go_wp2
            go_ret
            exact ⟨by rw [hc.out]; rfl, hb.out _⟩
          · have hs2 := hidden (show rtBad (xs.take (k + 1)) = false by rw [hs.out]; simp; omega)
            go_wp2
            go_roundw
            case rel => exact ⟨k + 1, hlt, by go_num, hs2.out, rfl⟩
            case measure => simp [RowKit.intOf]; omega
      · obtain rfl : k = xs.length := by omega
        have hc := hidden (hc2.out (by have := hbad.out; rwa [List.take_length] at this))
        by_cases h40 : (40 : Int) < (xs.length : Int)
        · have hc3 := hidden (show rtC e xs = 105 by rw [hc.out, if_pos (by omega)])
          go_wp2
          go_ret
          exact ⟨by rw [hc3.out]; rfl, hb.out _⟩
        · have hc3 := hidden (show rtC e xs = 0 by rw [hc.out, if_neg (by omega)])
          go_wp2
          go_ret
          exact ⟨by rw [hc3.out]; rfl, hb.out _⟩

/-! bytes.Equal -/
theorem convert_reads {w : World} {v : Value} {xs : List Int} (h : Reads .u8 w v xs) : (convert 24 9 v).run Tryd.prog w = .ok (.string (strOfNums xs)) w := by
  have h0 := h
  obtain ⟨a, len, cap, rfl, h1, h2, h3, h4, h5⟩ := h
  cases a with
  | none =>
    have : xs = [] := List.eq_nil_of_length_eq_zero (by have := (h4 rfl).1; omega)
    subst this
    exact run_convert_bytes_nil w _ _ Tryd.underlying24 Tryd.underlying5 _ _ _ Tryd.underlying9
  | some ad =>
    obtain ⟨b, o, s⟩ := ad
    by_cases hl : 0 < len
    · have := (h5 _ rfl 0 hl).1
      simp only at this
      subst this
      exact run_convert_bytes_arg w _ _ Tryd.underlying24 Tryd.underlying5 b o len cap xs h1 (fun i hi => (h5 _ rfl i hi).2) _ Tryd.underlying9
    · obtain rfl : len = 0 := by omega
      have : xs = [] := List.eq_nil_of_length_eq_zero (by omega)
      subst this
      rw [run_convert_bytes_string w _ _ _ _ 0 cap Tryd.underlying24 Tryd.underlying5 Tryd.underlying9]
      simp [Conv.bytesToString, loadCells]
      rfl
theorem strOfNums_inj {xs ys : List Int} (hx : ∀ x ∈ xs, 0 ≤ x ∧ x < 256) (hy : ∀ x ∈ ys, 0 ≤ x ∧ x < 256) (h : strOfNums xs = strOfNums ys) : xs = ys := by
  have e : ∀ l : List Int, (∀ x ∈ l, 0 ≤ x ∧ x < 256) → (strOfNums l).data.toList.map (fun b => (b.toNat : Int)) = l := fun l hl => by
    rw [strOfNums_data, List.map_map]
    refine (List.map_congr_left (g := id) fun x hx => ?_).trans (List.map_id _)
    have := hl x hx
    simp only [Function.comp_apply, UInt8.toNat_ofNat', id]
    omega
  rw [← e xs hx, ← e ys hy, h]
theorem bytesEqual_any (v u : Value) (xs ys : List Int) (w : World) (h1 : Reads .u8 w v xs) (h2 : Reads .u8 w u ys) (hx : ∀ x ∈ xs, 0 ≤ x ∧ x < 256) (hy : ∀ x ∈ ys, 0 ≤ x ∧ x < 256) :
    Calls Tryd.prog 30 #[v, u] w fun e w' => e = .returned (.bool (decide (xs = ys))) ∧ w = w' := by
  have c1 := convert_reads h1
  have c2 := convert_reads h2
  clear h1 h2
  have hi := hidden (@strOfNums_inj xs ys hx hy)
  clear hx hy
  go_enter Tryd.func30, Tryd.ntmps30
  have he : ((strOfNums xs).toList == (strOfNums ys).toList) = decide (xs = ys) := by
    by_cases e : xs = ys
    · subst e; simp
    · rw [decide_eq_false e, beq_eq_false_iff_ne]
      intro h
      refine e (hi.out ?_)
      exact ByteArray.ext (Array.ext' (by rw [← ByteArray.toList_eq, ← ByteArray.toList_eq]; exact h))
  replace he := hidden he
  go_wp2
  go_ret
  exact ⟨ret_bool he.out, rfl⟩
end Go.Proofs.YtcjjjoodnddoeaaDoor
