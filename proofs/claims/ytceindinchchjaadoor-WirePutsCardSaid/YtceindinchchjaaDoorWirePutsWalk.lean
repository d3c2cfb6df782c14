import Derived.Test.YtceindinchchjaaDoorWireTwinsWalk
namespace Go.Proofs.YtceindinchchjaaDoor
open Go.RowKit

/-- the document's way to the zig-zag number. -/
theorem zz_doc_pos (n : Int) (h0 : 0 ≤ n) : n * 2 = zz n := by rw [zz, if_pos h0]; omega
theorem max_u64 : IntKind.u64.max = 18446744073709551615 := by decide
theorem zz_doc_neg (n : Int) (h0 : n < 0) (h1 : -9223372036854775808 ≤ n) : bits .xor .u64 IntKind.u64.max (IntKind.u64.wrap (IntKind.u64.wrap n * 2)) = zz n := by
  rw [max_u64, IntKind.wrap_u64, IntKind.wrap_u64, u64_xor _ _ (by omega) (by omega) (by omega) (by omega), Nat.xor_comm, ← u64_xor _ _ (by omega) (by omega) (by omega) (by omega), xor_ones_u64 _ (by omega) (by omega), zz, if_neg (by omega)]
  omega
/-- the document's byte of a number that goes on. -/
theorem byte_doc (k : Int) (h0 : 0 ≤ k) (h1 : k ≤ 18446744073709551615) : bits .or .u64 (bits .and .u64 k 127) 128 % 256 = bits .or .u8 (IntKind.u8.wrap k) 128 := by
  obtain ⟨K, rfl⟩ := Int.eq_ofNat_of_zero_le h0
  rw [or128, u64_and _ _ (by omega) (by omega) (by omega) (by omega)]
  simp only [Int.toNat_natCast, Int.reduceToNat]
  rw [nat_mask7]
  have h : bits .or .u64 ((K % 128 : Nat) : Int) 128 = ((K % 128 + 128 : Nat) : Int) := by
    rw [u64_or _ _ (by omega) (by omega) (by omega) (by omega)]
    simp only [Int.toNat_natCast, Int.reduceToNat]
    rw [Nat.or_comm, nat_join 7 128 (K % 128) (by decide) (by omega)]
    omega
  rw [h]
  omega

set_option maxHeartbeats 1600000 in
theorem refPut_any (v : Value) (xs : List Int) (n : Int) (w : World) (h : Reads .u8 w v xs) (hx : xs.length ≤ 1000000) (h0 : -9223372036854775808 ≤ n) (h1 : n ≤ 9223372036854775807) :
    Calls Tryd.prog 10 #[v, .int .i64 n] w fun e w' => ∃ v', e = .returned v' ∧ w'.ownsRow w.heap.size 5 1 v' (xs ++ enc (zz n).toNat).length (cb (xs ++ enc (zz n).toNat)) ∧ Below w.heap.size w w' := by
  have hr := hidden h
  obtain ⟨a, c, rfl⟩ := reads_slice h
  have hz0 := zz_lo n
  have hz1 := zz_hi n h0 h1
  have hp := hidden (fun h => zz_doc_pos n h)
  have hn := hidden (fun h => zz_doc_neg n h h0)
  clear h
  generalize zz n = z at *
  have round : ∀ (v' uu : Value) (wr : World) , True := fun _ _ _ => trivial
  clear round
  by_cases hneg : n < 0
  all_goals
    go_enter Tryd.func10, Tryd.ntmps10
    go_wp2_with fail
    refine (bytes_any _ xs _ hr.out (by omega)).mono ?_
    rintro e w1 ⟨v1, rfl, hown1, hb1⟩
    go_wp2_with fail
    go_loopw [5, 6] (fun v' uu wr => PutRel z xs.length w.heap.size xs w v' uu wr) (fun _ uu _ => (intOf uu).toNat)
    case atStart => exact ⟨z, [], by first | rw [hp.out (by omega)] | rw [hn.out hneg], hz0, hz1, by simp, by simp, by simpa using hown1, hb1⟩
    case round =>
      obtain ⟨k, ys, rfl, hk0, hk, he, hys, hown2, hb⟩ := hrel
      have hBr : w.heap.size ≤ wr.heap.size := hb.size
      have he' := hidden he
      clear he hown1 hb1
      by_cases h128 : 128 ≤ k
      · go_wp2_with (at_builtin; refine wpList_app1 rfl _ _ 22 rfl 5 Tryd.underlying22 infoB rfl (by decide) w.heap.size _ _ _ rfl hown2 _ rfl rfl ?_ hBr ?_)
        case _ => omega
        intro v2 w2 hown3 hb2
        rw [byte_doc k hk0 hk] at hown3
        go_wp2
        go_roundw
        case rel => exact putRel_step hz1 hk0 hk h128 he'.out hown3 (hb.trans hb2)
        case measure => simp [intOf]; omega
      · go_wp2_with (at_builtin; refine wpList_app1 rfl _ _ 22 rfl 5 Tryd.underlying22 infoB rfl (by decide) w.heap.size _ _ _ rfl hown2 _ rfl rfl ?_ hBr ?_)
        case _ => omega
        intro v2 w2 hown3 hb2
        go_wp2
        go_ret
        refine ⟨v2, rfl, ?_, hb.trans hb2⟩
        have e : enc z.toNat = ys ++ [k] := by rw [he'.out, enc_small k.toNat (by omega)]; simp; omega
        rw [e]
        have e2 : (xs ++ (ys ++ [k])).length = xs.length + ys.length + 1 := by simp; omega
        rw [e2, ← List.append_assoc, cb_snoc]
        exact hown3

/-- the document's answer grows by one number a round. -/
def WantRel (w : World) (keep : List (Value × List Int)) (bs ls : List Int) (v i : Value) (wr : World) : Prop :=
  ∃ k : Nat, i = .int .i64 (k : Int) ∧ k ≤ ls.length ∧ Reads .u8 wr v (bs ++ encs (ls.take k)) ∧ (∀ x ∈ keep, Reads .u8 wr x.1 x.2) ∧ Below w.heap.size w wr

def ReadRel (w : World) (B g : Nat) (l : List Int) (i : Value) (wr : World) : Prop :=
  ∃ j : Nat, i = .int .i64 (j : Int) ∧ j ≤ l.length ∧ Rdr wr B g (encs l) (encs (l.take j)).length none ∧ Below w.heap.size w wr

theorem Errs3.below {w w' : World} {a b c : Addr} {B : Nat} (h : Errs3 w a b c) (hb : Below B w w') (hB : w.heap.size ≤ B) : Errs3 w' a b c := by
  obtain ⟨h1, h2, h3⟩ := h
  refine ⟨?_, ?_, ?_⟩
  · rw [World.cell?_of_block (w := w) (hb.block _ (by have := World.block_lt_of_cell? w _ h1; omega))]; exact h1
  · rw [World.cell?_of_block (w := w) (hb.block _ (by have := World.block_lt_of_cell? w _ h2; omega))]; exact h2
  · rw [World.cell?_of_block (w := w) (hb.block _ (by have := World.block_lt_of_cell? w _ h3; omega))]; exact h3

set_option maxHeartbeats 6400000 in
theorem walk_wirePuts (vb : Value) (bs : List Int) (vl : Value) (l : List Int) (A : Nat → Addr) (w : World) (hb0 : Reads .u8 w vb bs) (_ : ∀ x ∈ bs, 0 ≤ x ∧ x ≤ 255)
    (hl0 : Reads .i64 w vl l) (hlr : ∀ x ∈ l, -9223372036854775808 ≤ x ∧ x ≤ 9223372036854775807) (hS : Errs3 w (A 0) (A 1) (A 2)) :
    Calls Tryd.prog 3 #[vb, vl] w fun e w' => e = .returned (.bool true) ∧ Below w.heap.size w w' := by
  have hbR := hidden hb0
  have hlR := hidden hl0
  have hlm : l.length ≤ 9223372036854775807 := by obtain ⟨_, _, _, _, e, _, h, _⟩ := hl0; unfold maxLen at h; omega
  have hbm : bs.length ≤ 9223372036854775807 := by obtain ⟨_, _, _, _, e, _, h, _⟩ := hb0; unfold maxLen at h; omega
  obtain ⟨ab, cb0, rfl⟩ := reads_slice hb0
  obtain ⟨al, cl0, rfl⟩ := reads_slice hl0
  have hS' := hidden hS
  have hlr' := hidden hlr
  clear hS hlr hb0 hl0
  by_cases h100 : 100 < bs.length
  · have h100' : (100 : Int) < (bs.length : Int) := by omega
    clear h100
    go_enter Tryd.func3, Tryd.ntmps3
    go_wp2_with fail
    refine (law_first _).mono ?_
    rintro e w1 ⟨rfl, hb⟩
    go_wp2
    go_ret
    exact ⟨rfl, hb⟩
  by_cases h30 : 30 < l.length
  · have h100' : ¬ (100 : Int) < (bs.length : Int) := by omega
    have h30' : (30 : Int) < (l.length : Int) := by omega
    clear h100 h30
    go_enter Tryd.func3, Tryd.ntmps3
    go_wp2_with fail
    refine (law_first _).mono ?_
    rintro e w1 ⟨rfl, hb⟩
    go_wp2
    go_ret
    exact ⟨rfl, hb⟩
  · have h100' : ¬ (100 : Int) < (bs.length : Int) := by omega
    have h30' : ¬ (30 : Int) < (l.length : Int) := by omega
    have hel := hidden (encs_len l hlr'.out)
    have heb := hidden (encs_byte l)
    have htl := hidden (fun k => show (encs (l.take k)).length ≤ 300 by
      have h1 := encs_len (l.take k) (fun x hx => hlr'.out x (List.mem_of_mem_take hx))
      have h2 := List.length_take_le' k l
      omega)
    clear h100 h30
    go_enter Tryd.func3, Tryd.ntmps3
    go_wp2_with fail
    refine (law_first _).mono ?_
    rintro e w1 ⟨rfl, hw1⟩
    have hb1 := hidden hw1
    clear hw1
    go_wp2_with fail
    refine (bytes_any _ bs _ (hbR.out.below hb1.out (Nat.le_refl _)) (by omega)).mono ?_
    rintro e w2 ⟨v2, rfl, hown2, hw2⟩
    have hb2 := hidden (hb1.out.trans (hw2.mono hb1.out.size))
    have hwas := hidden (reads_of_own (k := .u8) hown2)
    clear hw2 hown2
    go_wp2_with fail
    refine (bytes_any _ bs _ (hbR.out.below hb2.out (Nat.le_refl _)) (by omega)).mono ?_
    rintro e w3 ⟨v3, rfl, hown3, hw3⟩
    have hb3 := hidden (hb2.out.trans (hw3.mono hb2.out.size))
    have hwas3 := hidden (hwas.out.below hw3 (Nat.le_refl _))
    have hwant := hidden (reads_of_own (k := .u8) hown3)
    clear hw3 hown3 hwas
    go_wp2_with fail
    go_loopw [7, 8] (fun v i wr => WantRel w [(v2, bs)] bs l v i wr) (fun _ i _ => l.length - (intOf i).toNat)
    case atStart => exact ⟨0, rfl, Nat.zero_le _, by simpa [encs_nil] using hwant.out, (by intro x hx; simp at hx; subst hx; exact hwas3.out), hb3.out⟩
    case round =>
      obtain ⟨k, rfl, hk, hrk, hkeep, hbk⟩ := hrel
      have hrk' := hidden hrk
      have hkeep' := hidden hkeep
      have hbk' := hidden hbk
      clear hrk hbk hkeep
      by_cases hlt : k < l.length
      · have hlt' : (k : Int) < (l.length : Int) := by omega
        obtain ⟨bl, ol, rfl, hcell⟩ := (hlR.out.below hbk'.out (Nat.le_refl _)).cell k hlt
        have hxr := hidden (hlr'.out _ (getD_mem l k hlt))
        have hsn := hidden (take_snoc_getD l k hlt)
        generalize l.getD k 0 = x at *
        go_wp2_with fail
        refine (refPut_any _ (bs ++ encs (l.take k)) x _ hrk'.out (by rw [List.length_append]; have := htl.out k; omega) hxr.out.1 hxr.out.2).mono ?_
        rintro e w4 ⟨v4, rfl, hown4, hw4⟩
        have hb4 := hidden (hbk'.out.trans (hw4.mono hbk'.out.size))
        have hr4 := hidden (reads_of_own (k := .u8) hown4)
        have hkeep4 := hidden (fun x hx => (hkeep'.out x hx).below hw4 (Nat.le_refl _))
        clear hw4 hown4
        go_wp2
        go_roundw
        case rel => exact ⟨k + 1, by go_num, hlt, by rw [hsn.out, encs_snoc, ← List.append_assoc]; exact hr4.out, hkeep4.out, hb4.out⟩
        case measure => simp [intOf]; omega
      · have hlt' : ¬ (k : Int) < (l.length : Int) := by omega
        have hkl : k = l.length := by omega
        rw [hkl, List.take_length] at hrk'
        have hwasK := hidden (hkeep'.out _ (List.mem_singleton.2 rfl))
        clear hkeep' hwant hwas3 hkl hb3
        go_wp2_with fail
        refine (put_any _ _ bs l wr (hbR.out.below hbk'.out (Nat.le_refl _)) (hlR.out.below hbk'.out (Nat.le_refl _)) (by omega) (by omega) hlr'.out).mono ?_
        rintro e w4 ⟨v4, rfl, hown4, hw4⟩
        have hb4 := hidden (hbk'.out.trans (hw4.mono hbk'.out.size))
        have hp4 := hidden (reads_of_own (k := .u8) hown4)
        have hwant4 := hidden (hrk'.out.below hw4 (Nat.le_refl _))
        have hwas4 := hidden (hwasK.out.below hw4 (Nat.le_refl _))
        clear hw4 hown4 hrk' hwasK
        go_wp2_with fail
        refine (bytes_any _ bs _ (hbR.out.below hb4.out (Nat.le_refl _)) (by omega)).mono ?_
        rintro e w5 ⟨v5, rfl, hown5, hw5⟩
        have hb5 := hidden (hb4.out.trans (hw5.mono hb4.out.size))
        have hq5 := hidden (reads_of_own (k := .u8) hown5)
        have hp5 := hidden (hp4.out.below hw5 (Nat.le_refl _))
        have hwant5 := hidden (hwant4.out.below hw5 (Nat.le_refl _))
        have hwas5 := hidden (hwas4.out.below hw5 (Nat.le_refl _))
        clear hw5 hown5 hp4 hwant4 hwas4 hlt hlt'
        go_wp2_with fail
        go_loopw [10, 11] (fun v i wr => WantRel w [(v2, bs), (u7, bs ++ encs l), (v4, bs ++ encs l)] bs l v i wr) (fun _ i _ => l.length - (intOf i).toNat)
        case atStart => exact ⟨0, rfl, Nat.zero_le _, by simpa [encs_nil] using hq5.out, (by
          intro x hx
          simp only [List.mem_cons, List.not_mem_nil, or_false] at hx
          rcases hx with rfl | rfl | rfl
          · exact hwas5.out
          · exact hwant5.out
          · exact hp5.out), hb5.out⟩
        case round =>
          obtain ⟨q, rfl, hq, hrq, hkeep, hbq⟩ := hrel
          have hrq' := hidden hrq
          have hkeep' := hidden hkeep
          have hbq' := hidden hbq
          clear hrq hbq hkeep hq5 hwas5 hwant5 hp5 hb5
          by_cases hlt : q < l.length
          · have hlt' : (q : Int) < (l.length : Int) := by omega
            obtain ⟨bl, ol, rfl, hcell⟩ := (hlR.out.below hbq'.out (Nat.le_refl _)).cell q hlt
            have hxr := hidden (hlr'.out _ (getD_mem l q hlt))
            have hsn := hidden (take_snoc_getD l q hlt)
            generalize l.getD q 0 = x at *
            have hl1 := hidden (reads_new (k := .i64) (w := wr) (e := 2) #[.int .i64 x] [x] 1 rfl rfl (by decide))
            have hal := hidden ((Below.refl wr.heap.size wr).alloc (Nat.le_refl _) (.cells #[.int .i64 x] 2))
            have hrq1 := hidden (hrq'.out.below hal.out (Nat.le_refl _))
            go_wp2_with fail
            refine (put_any _ _ (bs ++ encs (l.take q)) [x] _ hrq1.out hl1.out (by rw [List.length_append]; have := htl.out q; omega) (by simp) (by intro y hy; simp at hy; subst hy; exact hxr.out)).mono ?_
            rintro e w6 ⟨v6, rfl, hown6, hw6⟩
            have hw6' := hal.out.trans (hw6.mono hal.out.size)
            have hb6 := hidden (hbq'.out.trans (hw6'.mono hbq'.out.size))
            have hr6 := hidden (reads_of_own (k := .u8) hown6)
            have hkeep6 := hidden (fun x hx => (hkeep'.out x hx).below hw6' (Nat.le_refl _))
            clear hw6 hown6 hw6'
            go_wp2
            go_roundw
            case rel => exact ⟨q + 1, by go_num, hlt, by rw [hsn.out, encs_append, ← List.append_assoc]; exact hr6.out, hkeep6.out, hb6.out⟩
            case measure => simp [intOf]; omega
          · have hlt' : ¬ (q : Int) < (l.length : Int) := by omega
            have hkl : q = l.length := by omega
            rw [hkl, List.take_length] at hrq'
            have hwas6 := hidden (hkeep'.out (v2, bs) (by simp))
            have hwant6 := hidden (hkeep'.out (u7, bs ++ encs l) (by simp))
            have hp6 := hidden (hkeep'.out (v4, bs ++ encs l) (by simp))
            clear hkeep' hkl hlt
            have hlenE := hidden (show (bs ++ encs l).length ≤ 1000000000 by rw [List.length_append]; have := hel.out; omega)
            go_wp2_with fail
            refine (sameBytes_any _ _ (bs ++ encs l) (bs ++ encs l) _ hp6.out hwant6.out hlenE.out).mono ?_
            rintro e w6 ⟨rfl, m1, rfl⟩
            have hq6 := hidden (show Reads .u8 (wr.drewN m1) u10 (bs ++ encs l) from hrq'.out)
            have hwant7 := hidden (show Reads .u8 (wr.drewN m1) u7 (bs ++ encs l) from hwant6.out)
            go_wp2_with fail
            refine (sameBytes_any _ _ (bs ++ encs l) (bs ++ encs l) _ hq6.out hwant7.out hlenE.out).mono ?_
            rintro e w6 ⟨rfl, m2, rfl⟩
            have hbz := hidden (below_drewN (m := m1 + m2) hbq'.out)
            have hwas7 := hidden (show Reads .u8 (wr.drewN (m1 + m2)) v2 bs from hwas6.out)
            clear hq6 hwant7 hwant6 hp6 hrq'
            go_wp2_with fail
            refine (sameBytes_any _ _ bs bs (wr.drewN (m1 + m2)) (hbR.out.below hbz.out (Nat.le_refl _)) hwas7.out (by omega)).mono ?_
            rintro e w6 ⟨rfl, m3, hw6⟩
            have hb6 := hidden (show Below w.heap.size w w6 by rw [hw6]; exact below_drewN hbz.out)
            clear hw6 hwas7 hbz hwas6
            go_wp2_with fail
            refine (put_any _ _ [] l w6 (Reads.nil _ _) (hlR.out.below hb6.out (Nat.le_refl _)) (by decide) (by omega) hlr'.out).mono ?_
            rintro e w7 ⟨v7, rfl, hown7, hw7⟩
            rw [List.nil_append] at hown7
            have hb7 := hidden (hb6.out.trans (hw7.mono hb6.out.size))
            have hr7 := hidden (reads_of_own (k := .u8) hown7)
            clear hw7 hown7
            go_wp2_with fail
            refine (newReader_any _ (encs l) w7 hr7.out (by have := hel.out; omega)).mono ?_
            rintro e w8 ⟨g, rfl, hR, hw8⟩
            have hb8 := hidden (hb7.out.trans (hw8.mono hb7.out.size))
            have hR8 := hidden hR
            have hs7 := hidden hb7.out.size
            clear hw8 hR hr7 hb7 hb6
            go_wp2_with fail
            go_loopw [13] (fun i wr => ReadRel w w7.heap.size g l i wr) (fun i _ => l.length - (intOf i).toNat)
            case atStart => exact ⟨0, rfl, Nat.zero_le _, hR8.out, hb8.out⟩
            case round =>
              obtain ⟨j, rfl, hj, hRj, hbj⟩ := hrel
              have hRj' := hidden hRj
              have hbj' := hidden hbj
              clear hRj hbj hR8 hb8
              by_cases hjl : j < l.length
              · have hjl' : (j : Int) < (l.length : Int) := by omega
                obtain ⟨bl, ol, rfl, hcell⟩ := (hlR.out.below hbj'.out (Nat.le_refl _)).cell j hjl
                have hxr := hlr'.out _ (getD_mem l j hjl)
                have hcz := hidden (fun (wz : World) (hz : Below w.heap.size w wz) => show wz.cell? ⟨bl, ol + j, none⟩ = some (.int .i64 (l.getD j 0)) by
                  obtain ⟨b, o, e1, e2⟩ := (hlR.out.below hz (Nat.le_refl _)).cell j hjl
                  simp only [Option.some.injEq, Addr.mk.injEq, and_true] at e1
                  obtain ⟨rfl, rfl⟩ := e1
                  exact e2)
                have hstep0 : ∀ (wz : World), Rdr wz w7.heap.size g (encs l) (encs (l.take j)).length none → Below w.heap.size w wz →
                    Calls Tryd.prog 14 #[.pointer (some ⟨g, 0, none⟩), .int .i64 (-9223372036854775808), .int .i64 9223372036854775807] wz fun e w' =>
                      e = .returned (.int .i64 (l.getD j 0)) ∧ Rdr w' w7.heap.size g (encs l) (encs (l.take (j + 1))).length none ∧ Below w.heap.size w w' := fun wz hz hbz => by
                  refine (num_good w7.heap.size g _ _ (encs l) (-9223372036854775808) 9223372036854775807 (l.getD j 0) (A 0) (A 1) (A 2) wz hz (by have := hel.out; omega) heb.out (hS'.out.below hbz (Nat.le_refl _)) (by rw [all_num _ _ _ l j _ _ hjl hlr'.out, if_pos hxr])).mono ?_
                  rintro e w' ⟨he, hR, hg⟩
                  exact ⟨he, by rw [encs_take_succ l j hjl]; exact hR, below_grown hbz hg hz.1 hs7.out⟩
                have hstep := hidden hstep0
                clear hstep0
                clear hxr
                generalize l.getD j 0 = x at *
                go_wp2_with fail
                go_region_held3 (fun w' => w'.cell? ⟨bl, ol + j, none⟩ = some (.int .i64 x))
                  ((first | exact hcell | exact hcz.out _ hbj'.out | exact hcz.out _ hbj'.out.drew | exact hcz.out _ (by assumption)))
                  (first | (go_at_call 14; refine (hstep.out _ ?_ ?_).mono ?_; (first | exact hRj'.out | exact hRj'.out.same (fun _ _ => rfl)); (first | exact hbj'.out | exact hbj'.out.drew); rintro e w' ⟨rfl, hR5, hb5⟩))
                go_wp2
                go_roundw
                case rel => exact ⟨j + 1, by go_num, hjl, (by first | exact hR5 | exact hR5.same (fun _ _ => rfl)), by first | exact hb5 | exact hb5.drew⟩
                case measure => simp [intOf]; omega
              · have hjl' : ¬ (j : Int) < (l.length : Int) := by omega
                have hjj : j = l.length := by omega
                rw [hjj, List.take_length] at hRj'
                have hz0 : ((((encs l).length : Int) - ((encs l).length : Int)) == 0) = true := by rw [beq_iff_eq]; omega
                have hEI : ((encs l).length : Int) ≤ 400 := by have := hel.out; omega
                clear hjj hjl
                go_wp2_with fail
                refine (left_none _ _ _ _ _ hRj'.out (by omega)).mono ?_
                rintro e w9 ⟨rfl, m, rfl⟩
                have hR9 := hidden (hRj'.out.same (w' := wr.drewN m) (fun _ _ => rfl))
                have hb9 := hidden (below_drewN (m := m) hbj'.out)
                clear hRj' hbj'
                go_wp2_with fail
                refine (err_none _ _ _ _ _ hR9.out).mono ?_
                rintro e w10 ⟨rfl, hw10⟩
                go_wp2
                go_ret
                exact ⟨rfl, by rw [← hw10]; exact hb9.out⟩
end Go.Proofs.YtceindinchchjaaDoor
