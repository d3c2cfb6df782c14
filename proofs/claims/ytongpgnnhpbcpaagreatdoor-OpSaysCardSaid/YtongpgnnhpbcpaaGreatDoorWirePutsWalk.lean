import Derived.Test.YtongpgnnhpbcpaaGreatDoorWireTwinsWalk
namespace Go.Proofs.YtongpgnnhpbcpaaGreatDoor
open Go.RowKit

/-- the document's way to the zig-zag number. -/
theorem zz_doc_pos (n : Int) (h0 : 0 ≤ n) : n * 2 = zz n := by rw [zz, if_pos h0]; omega
theorem max_u64 : IntKind.u64.max = 18446744073709551615 := by decide
theorem zz_doc_neg (n : Int) (h0 : n < 0) (h1 : -9223372036854775808 ≤ n) : bits .xor .u64 IntKind.u64.max (IntKind.u64.wrap (IntKind.u64.wrap n * 2)) = zz n := by
  rw [max_u64, IntKind.wrap_u64, IntKind.wrap_u64, u64_xor _ _ (by omega) (by omega) (by omega) (by omega), Nat.xor_comm, ← u64_xor _ _ (by omega) (by omega) (by omega) (by omega), xor_ones_u64 _ (by omega) (by omega), zz, if_neg (by omega)]
  omega
/-- the document's byte of a number that goes on. -/
theorem byte_doc (k : Int) (h0 : 0 ≤ k) (h1 : k ≤ 18446744073709551615) : bits .or .u64 (bits .and .u64 k 127) 128 % 256 = bits .or .u8 (IntKind.u8.wrap k) 128 := by
  obtain ⟨K, rfl⟩ := Int.eq_ofNat_of_zero_le h0
  rw [or128, u64_and _ _ (by omega) (by omega) (by omega) (by omega)]
  simp only [Int.toNat_natCast, Int.reduceToNat]
  rw [nat_mask7]
  have h : bits .or .u64 ((K % 128 : Nat) : Int) 128 = ((K % 128 + 128 : Nat) : Int) := by
    rw [u64_or _ _ (by omega) (by omega) (by omega) (by omega)]
    simp only [Int.toNat_natCast, Int.reduceToNat]
    rw [Nat.or_comm, nat_join 7 128 (K % 128) (by decide) (by omega)]
    omega
  rw [h]
  omega

set_option maxHeartbeats 1600000 in
theorem refPut_any (v : Value) (xs : List Int) (n : Int) (w : World) (h : Reads .u8 w v xs) (hx : xs.length ≤ 1000000) (h0 : -9223372036854775808 ≤ n) (h1 : n ≤ 9223372036854775807) :
    Calls Tryz.prog 29 #[v, .int .i64 n] w fun e w' => ∃ v', e = .returned v' ∧ w'.ownsRow w.heap.size 5 1 v' (xs ++ enc (zz n).toNat).length (cb (xs ++ enc (zz n).toNat)) ∧ Below w.heap.size w w' := by
  have hr := hidden h
  obtain ⟨a, c, rfl⟩ := reads_slice h
  have hz0 := zz_lo n
  have hz1 := zz_hi n h0 h1
  have hp := hidden (fun h => zz_doc_pos n h)
  have hn := hidden (fun h => zz_doc_neg n h h0)
  clear h
  generalize zz n = z at *
  have round : ∀ (v' uu : Value) (wr : World) , True := fun _ _ _ => trivial
  clear round
  by_cases hneg : n < 0
  all_goals
    go_enter Tryz.func29, Tryz.ntmps29
    go_wp2_with fail
    refine (bytes_any _ xs _ hr.out (by omega)).mono ?_
    rintro e w1 ⟨v1, rfl, hown1, hb1⟩
    go_wp2_with fail
    go_loopw [5, 6] (fun v' uu wr => PutRel z xs.length w.heap.size xs w v' uu wr) (fun _ uu _ => (intOf uu).toNat)
    case atStart => exact ⟨z, [], by first | rw [hp.out (by omega)] | rw [hn.out hneg], hz0, hz1, by simp, by simp, by simpa using hown1, hb1⟩
    case round =>
      obtain ⟨k, ys, rfl, hk0, hk, he, hys, hown2, hb⟩ := hrel
      have hBr : w.heap.size ≤ wr.heap.size := hb.size
      have he' := hidden he
      clear he hown1 hb1
      by_cases h128 : 128 ≤ k
      · go_wp2_with (at_builtin; refine wpList_app1 rfl _ _ 24 rfl 5 Tryz.underlying24 infoB rfl (by decide) w.heap.size _ _ _ rfl hown2 _ rfl rfl ?_ hBr ?_)
        case _ => omega
        intro v2 w2 hown3 hb2
        rw [byte_doc k hk0 hk] at hown3
        go_wp2
        go_roundw
        case rel => exact putRel_step hz1 hk0 hk h128 he'.out hown3 (hb.trans hb2)
        case measure => simp [intOf]; omega
      · go_wp2_with (at_builtin; refine wpList_app1 rfl _ _ 24 rfl 5 Tryz.underlying24 infoB rfl (by decide) w.heap.size _ _ _ rfl hown2 _ rfl rfl ?_ hBr ?_)
        case _ => omega
        intro v2 w2 hown3 hb2
        go_wp2
        go_ret
        refine ⟨v2, rfl, ?_, hb.trans hb2⟩
        have e : enc z.toNat = ys ++ [k] := by rw [he'.out, enc_small k.toNat (by omega)]; simp; omega
        rw [e]
        have e2 : (xs ++ (ys ++ [k])).length = xs.length + ys.length + 1 := by simp; omega
        rw [e2, ← List.append_assoc, cb_snoc]
        exact hown3

/-- the document's answer grows by one number a round. -/
def WantRel (w : World) (keep : List (Value × List Int)) (bs ls : List Int) (v i : Value) (wr : World) : Prop :=
  ∃ k : Nat, i = .int .i64 (k : Int) ∧ k ≤ ls.length ∧ Reads .u8 wr v (bs ++ encs (ls.take k)) ∧ (∀ x ∈ keep, Reads .u8 wr x.1 x.2) ∧ Below w.heap.size w wr

def ReadRel (w : World) (B g : Nat) (l : List Int) (i : Value) (wr : World) : Prop :=
  ∃ j : Nat, i = .int .i64 (j : Int) ∧ j ≤ l.length ∧ Rdr wr B g (encs l) (encs (l.take j)).length none ∧ Below w.heap.size w wr

theorem Errs3.below {w w' : World} {a b c : Addr} {B : Nat} (h : Errs3 w a b c) (hb : Below B w w') (hB : w.heap.size ≤ B) : Errs3 w' a b c := by
  obtain ⟨h1, h2, h3⟩ := h
  refine ⟨?_, ?_, ?_⟩
  · rw [World.cell?_of_block (w := w) (hb.block _ (by have := World.block_lt_of_cell? w _ h1; omega))]; exact h1
  · rw [World.cell?_of_block (w := w) (hb.block _ (by have := World.block_lt_of_cell? w _ h2; omega))]; exact h2
  · rw [World.cell?_of_block (w := w) (hb.block _ (by have := World.block_lt_of_cell? w _ h3; omega))]; exact h3

end Go.Proofs.YtongpgnnhpbcpaaGreatDoor
