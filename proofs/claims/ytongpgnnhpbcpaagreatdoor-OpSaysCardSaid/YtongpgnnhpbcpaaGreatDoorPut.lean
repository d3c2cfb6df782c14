import Derived.Test.YtongpgnnhpbcpaaGreatDoorPure
import Derived.Test.YtongpgnnhpbcpaaGreatDoorBase
namespace Go.Proofs.YtongpgnnhpbcpaaGreatDoor
open Go.RowKit

theorem infoB : (Tryz.prog.info? 5).map (fun i => (i.zero, i.size, i.bytes)) = some (some (.int .u8 0), 1, 1) := by kernel_rfl

/-- a list of bytes as cells. -/
def cb (xs : List Int) : List Value := xs.map (Value.int .u8)
theorem cb_snoc (xs : List Int) (x : Int) : cb (xs ++ [x]) = cb xs ++ [.int .u8 x] := by simp [cb]
theorem cb_length (xs : List Int) : (cb xs).length = xs.length := by simp [cb]

/-- the rounds of appendNumber: the form's bytes so far are appended, k's are still to come. -/
def PutRel (u : Int) (n B : Nat) (xs : List Int) (w : World) (v' uu : Value) (wr : World) : Prop :=
  ∃ (k : Int) (ys : List Int), uu = .int .u64 k ∧ 0 ≤ k ∧ k ≤ 18446744073709551615 ∧ enc u.toNat = ys ++ enc k.toNat ∧ ys.length ≤ 9 ∧ wr.ownsRow B 5 1 v' (n + ys.length) (cb (xs ++ ys)) ∧ Below B w wr

theorem putRel_step {u : Int} {n B : Nat} {k : Int} {xs ys : List Int} {w w1 : World} {v' : Value} (hu : u ≤ 18446744073709551615) (h0 : 0 ≤ k) (hk : k ≤ 18446744073709551615) (h128 : 128 ≤ k) (he : enc u.toNat = ys ++ enc k.toNat)
    (hown : w1.ownsRow B 5 1 v' (n + ys.length + 1) (cb (xs ++ ys) ++ [.int .u8 (bits .or .u8 (IntKind.u8.wrap k) 128)])) (hb : Below B w w1) :
    PutRel u n B xs w v' (.int .u64 (k / 128)) w1 := by
  obtain ⟨K, rfl⟩ := Int.eq_ofNat_of_zero_le h0
  have e1 : ((K : Int) / 128).toNat = K / 128 := by omega
  have e2 : enc (K : Int).toNat = ((K % 128 + 128 : Nat) : Int) :: enc (K / 128) := by rw [Int.toNat_natCast]; exact enc_big K (by omega)
  refine ⟨(K : Int) / 128, ys ++ [((K % 128 + 128 : Nat) : Int)], rfl, by omega, by omega, ?_, ?_, ?_, hb⟩
  · rw [he, e2, e1]; simp
  · have h1 := enc_ten u.toNat (by omega)
    rw [he, e2] at h1
    have h2 := enc_pos (K / 128)
    simp at h1 ⊢
    omega
  · rw [or128] at hown
    have e : n + (ys ++ [((K % 128 + 128 : Nat) : Int)]).length = n + ys.length + 1 := by simp; omega
    rw [e, ← List.append_assoc, cb_snoc]
    exact hown

set_option maxHeartbeats 800000 in
/-- What is appended is the form of the number. -/
theorem appendNumber_any (u : Int) (v : Value) (n : Nat) (xs : List Int) (B : Nat) (w : World) (hu0 : 0 ≤ u) (hu : u ≤ 18446744073709551615) (hn : n ≤ 1000000000000) (hB : B ≤ w.heap.size)
    (hown : w.ownsRow B 5 1 v n (cb xs)) :
    Calls Tryz.prog 51 #[v, .int .u64 u] w fun e w' =>
      ∃ v', e = .returned v' ∧ w'.ownsRow B 5 1 v' (n + (enc u.toNat).length) (cb (xs ++ enc u.toNat)) ∧ Below B w w' := by
  go_enter Tryz.func51, Tryz.ntmps51
  go_wp2_with fail
  go_loopw [0, 1] (fun v' uu wr => PutRel u n B xs w v' uu wr) (fun _ uu _ => (intOf uu).toNat)
  case atStart => exact ⟨u, [], rfl, hu0, hu, by simp, by simp, by simpa using hown, Below.refl _ _⟩
  case round =>
    obtain ⟨k, ys, rfl, hk0, hk, he, hys, hown1, hb⟩ := hrel
    have hBr : B ≤ wr.heap.size := Nat.le_trans hB hb.size
    have he' := hidden he
    clear he hown
    by_cases h128 : 128 ≤ k
    · go_wp2_with (at_builtin; refine wpList_app1 rfl _ _ 24 rfl 5 Tryz.underlying24 infoB rfl (by decide) B _ _ _ rfl hown1 _ rfl rfl ?_ hBr ?_)
      case _ => omega
      intro v2 w1 hown2 hb2
      go_wp2
      go_roundw
      case rel => exact putRel_step hu hk0 hk h128 he'.out hown2 (hb.trans hb2)
      case measure => simp [intOf]; omega
    · go_wp2_with (at_builtin; refine wpList_app1 rfl _ _ 24 rfl 5 Tryz.underlying24 infoB rfl (by decide) B _ _ _ rfl hown1 _ rfl rfl ?_ hBr ?_)
      case _ => omega
      intro v2 w1 hown2 hb2
      go_wp2
      go_ret
      refine ⟨v2, rfl, ?_, hb.trans hb2⟩
      have e : enc u.toNat = ys ++ [k] := by rw [he'.out, enc_small k.toNat (by omega)]; simp; omega
      rw [e]
      have e2 : n + (ys ++ [k]).length = n + ys.length + 1 := by simp; omega
      rw [e2, ← List.append_assoc, cb_snoc]
      exact hown2

/-- the rounds of Put: the numbers so far are appended. -/
def PutsRel (B : Nat) (bs ls : List Int) (w : World) (v i : Value) (wr : World) : Prop :=
  ∃ k : Nat, i = .int .i64 (k : Int) ∧ k ≤ ls.length ∧ wr.ownsRow B 5 1 v (bs ++ encs (ls.take k)).length (cb (bs ++ encs (ls.take k))) ∧ Below B w wr

theorem take_snoc_getD (l : List Int) (k : Nat) (h : k < l.length) : l.take (k + 1) = l.take k ++ [l.getD k 0] := by
  rw [List.take_succ_eq_append_getElem h, List.getD_eq_getElem?_getD, List.getElem?_eq_getElem h]; rfl

set_option maxHeartbeats 800000 in
/-- Put(b, l...): b in new memory, and each of l. -/
theorem put_any (bv lv : Value) (bs ls : List Int) (w : World) (hb : Reads .u8 w bv bs) (hl : Reads .i64 w lv ls) (hbl : bs.length ≤ 1000000) (hll : ls.length ≤ 1000000)
    (hls : ∀ n ∈ ls, -9223372036854775808 ≤ n ∧ n ≤ 9223372036854775807) :
    Calls Tryz.prog 25 #[bv, lv] w fun e w' =>
      ∃ v, e = .returned v ∧ w'.ownsRow w.heap.size 5 1 v (bs ++ encs ls).length (cb (bs ++ encs ls)) ∧ Below w.heap.size w w' := by
  have hb0 := hb
  have hl0 := hl
  obtain ⟨ab, lb, cb', rfl, eb, hbc, hbm, hbn, hbx⟩ := hb
  obtain ⟨al, ll, cl, rfl, el, hlc, hlm, hln, hlx⟩ := hl
  subst eb
  subst el
  clear hbx hlx hbn hln
  obtain ⟨i0, hi, hz0, hz1, hz2⟩ := info_parts infoB
  have hls' := hidden hls
  have hbr := hidden hb0
  have hlr := hidden hl0
  clear hls hb0 hl0
  go_enter Tryz.func25, Tryz.ntmps25
  go_wp2_with (at_make; refine wpList_make_own _ rfl _ _ 24 rfl w.heap.size 5 i0 (.int .u8 0) 1 Tryz.underlying24 hi hz0 hz1 .i64 .i64 _ (bs.length + ls.length) rfl rfl (by simp) ?c1 ?c2 ?c3 ?_)
  case c1 => rw [hz2]; omega
  case c2 => unfold maxLen; omega
  case c3 => exact Nat.le_refl _
  intro w1 hown1 hg1
  have hb1 : Below w.heap.size w w1 := (Below.refl _ _).grown hg1 (Nat.le_refl _) (fun _ h => by cases h)
  have hbr1 := hidden (hbr.out.below hb1 (Nat.le_refl _))
  go_wp2_with (at_builtin; refine wpList_append_fits_any _ rfl _ _ 24 rfl w.heap.size 5 i0 1 Tryz.underlying24 hi hz1 w.heap.size 0 (bs.length + ls.length) [] rfl hown1 ab bs.length cb' (cb bs) rfl ?d1 ?d2 ?d3 ?d4 ?d5 ?_)
  case d1 => simp [cb]
  case d2 => exact hbr1.out.ifNone
  case d3 => exact hbr1.out.cells
  case d4 => exact ints_oneCell _ _
  case d5 => omega
  intro w2 hown2 hg2
  have hb2 : Below w.heap.size w w2 := hb1.grown hg2 hg1.size (fun g h => by cases h; exact Nat.le_refl _)
  have hown2' : w2.ownsRow w.heap.size 5 1 (Value.slice (some ⟨w.heap.size, 0, none⟩) bs.length (bs.length + ls.length)) bs.length (cb bs) := by simpa using hown2
  clear hown1 hown2 hg1 hg2 hb1
  go_wp2_with fail
  go_loopw [5, 19] (fun v i wr => PutsRel w.heap.size bs ls w v i wr) (fun _ i _ => ls.length - (intOf i).toNat)
  case atStart => exact ⟨0, rfl, Nat.zero_le _, by simpa [encs_nil] using hown2', hb2⟩
  case round =>
    obtain ⟨k, rfl, hk, hownk, hbk⟩ := hrel
    clear hown2'
    by_cases hlt : k < ls.length
    · obtain ⟨bl, ol, rfl, hc⟩ := (hlr.out.below hbk (Nat.le_refl _)).cell k hlt
      have hr := hls'.out (ls.getD k 0) (by rw [List.getD_eq_getElem?_getD, List.getElem?_eq_getElem hlt]; exact List.getElem_mem hlt)
      have hlen := encs_len (ls.take k) (fun n hn => hls'.out n (List.mem_of_mem_take hn))
      have htl : (ls.take k).length ≤ k := List.length_take_le _ _
      have htk := hidden (take_snoc_getD ls k hlt)
      generalize ls.getD k 0 = x at hc hr htk
      generalize hys : bs ++ encs (ls.take k) = ys at hownk
      have hyl : ys.length ≤ 20000000 := by rw [← hys, List.length_append]; omega
      have hys' := hidden hys
      clear hys
      go_wp2_with fail
      refine (zigzag_any _ _ hr.1 hr.2).mono ?_
      rintro e w' ⟨rfl, rfl⟩
      go_wp2_with fail
      refine (appendNumber_any _ _ _ ys w.heap.size _ (zz_lo x) (zz_hi x hr.1 hr.2) (by omega) hbk.size hownk).mono ?_
      rintro e w3 ⟨v3, rfl, hown3, hb3⟩
      go_wp2
      go_roundw
      case rel =>
        refine ⟨k + 1, by go_num, hlt, ?_, hbk.trans hb3⟩
        rw [htk.out, encs_snoc, ← List.append_assoc, hys'.out, List.length_append]
        exact hown3
      case measure => simp [intOf]; omega
    · go_wp2
      go_ret
      have e : ls.take k = ls := List.take_of_length_le (by omega)
      rw [e] at hownk
      exact ⟨_, rfl, hownk, hbk⟩
end Go.Proofs.YtongpgnnhpbcpaaGreatDoor
