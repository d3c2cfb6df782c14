import Derived.Test.YteinajoiambigaaDoorHoldLaw
import Derived.Test.YteinajoiambigaaDoorLaidOn
import Derived.Deep.DeepCutAuto
namespace Go.Proofs.YteinajoiambigaaDoor
open Go.RowKit
set_option linter.unusedVariables false

/-- something that holdings are told: whether it is Take, its spot, how much. -/
structure HoDo where
  t : Bool
  m : Int
  a : Int
  q : Int
def hoZ : HoDo := ⟨false, 0, 0, 0⟩
def hoDoV (d : HoDo) : List Value := [.bool d.t, .int .i64 d.m, .int .i64 d.a, .int .i64 d.q]
theorem hoDoV_len (d : HoDo) : (hoDoV d).length = 4 := rfl
def HoDoBig (d : HoDo) : Prop := (-9223372036854775808 ≤ d.m ∧ d.m ≤ 9223372036854775807) ∧ (-9223372036854775808 ≤ d.a ∧ d.a ≤ 9223372036854775807) ∧ (-9223372036854775808 ≤ d.q ∧ d.q ≤ 9223372036854775807)
theorem rowHo_at {w : World} {a : Option Addr} {n c : Nat} {l : List HoDo} (h : Row hoDoV 4 w (.slice a n c) l) (k : Nat) (hk : k < n) : ∃ b o, a = some ⟨b, o, none⟩ ∧
    w.cell? ⟨b, o + k * 4, none⟩ = some (.bool (l.getD k hoZ).t) ∧ w.cell? ⟨b, o + k * 4 + 1, none⟩ = some (.int .i64 (l.getD k hoZ).m) ∧ w.cell? ⟨b, o + k * 4 + 2, none⟩ = some (.int .i64 (l.getD k hoZ).a) ∧ w.cell? ⟨b, o + k * 4 + 3, none⟩ = some (.int .i64 (l.getD k hoZ).q) := by
  obtain ⟨b, o, rfl, hc⟩ := h.at hoDoV_len hoZ k hk (by decide)
  exact ⟨b, o, rfl, hc 0 (by omega), hc 1 (by omega), hc 2 (by omega), hc 3 (by omega)⟩
theorem rowHol_at {w : World} {a : Option Addr} {n c : Nat} {l : List HolT} (h : Row holV 3 w (.slice a n c) l) (k : Nat) (hk : k < n) : ∃ b o, a = some ⟨b, o, none⟩ ∧
    w.cell? ⟨b, o + k * 3, none⟩ = some (.int .i64 (l.getD k ((0, 0), 0)).1.1) ∧ w.cell? ⟨b, o + k * 3 + 1, none⟩ = some (.int .i64 (l.getD k ((0, 0), 0)).1.2) ∧ w.cell? ⟨b, o + k * 3 + 2, none⟩ = some (.int .i64 (l.getD k ((0, 0), 0)).2) := by
  obtain ⟨b, o, rfl, hc⟩ := h.at holV_len ((0, 0), 0) k hk (by decide)
  exact ⟨b, o, rfl, hc 0 (by omega), hc 1 (by omega), hc 2 (by omega)⟩
/-- an element's cells stay. -/
theorem hoCells_of {w W : World} {b o : Nat} {u0 u1 u2 u3 : Value} (hb : Below w.heap.size w W) (h0 : w.cell? ⟨b, o, none⟩ = some u0) (h1 : w.cell? ⟨b, o + 1, none⟩ = some u1) (h2 : w.cell? ⟨b, o + 2, none⟩ = some u2) (h3 : w.cell? ⟨b, o + 3, none⟩ = some u3) :
    W.cell? ⟨b, o, none⟩ = some u0 ∧ W.cell? ⟨b, o + 1, none⟩ = some u1 ∧ W.cell? ⟨b, o + 2, none⟩ = some u2 ∧ W.cell? ⟨b, o + 3, none⟩ = some u3 := by
  refine ⟨?_, ?_, ?_, ?_⟩
  · rw [World.cell?_of_block (w := w) (hb.block _ (World.block_lt_of_cell? w _ h0))]; exact h0
  · rw [World.cell?_of_block (w := w) (hb.block _ (World.block_lt_of_cell? w _ h1))]; exact h1
  · rw [World.cell?_of_block (w := w) (hb.block _ (World.block_lt_of_cell? w _ h2))]; exact h2
  · rw [World.cell?_of_block (w := w) (hb.block _ (World.block_lt_of_cell? w _ h3))]; exact h3
/-- how Take goes, and what the sum is then. -/
theorem take_ways {T : HTab} (hT : HoT T) (s : SpotT) (q a : Int) : (takHC T s q = 103 ∧ takHT T s q = T) ∨ (takHC T s q = 113 ∧ takHT T s q = T) ∨
    (takHC T s q = 0 ∧ (1 ≤ q ∧ q ≤ 1000000000000) ∧ (s.2 == a) = true ∧ sumH (takHT T s q) a = sumH T a + -q) ∨ (takHC T s q = 0 ∧ (1 ≤ q ∧ q ≤ 1000000000000) ∧ (s.2 == a) = false ∧ sumH (takHT T s q) a = sumH T a) := by
  rcases takHC_code T s q with h | h | h
  · right; right
    have e := sumH_take h a
    have hq := (take_done h).2.1
    unfold qtOk at hq
    by_cases ha : s.2 = a
    · rw [if_pos ha] at e
      exact .inl ⟨h, hq, by simpa using ha, by omega⟩
    · rw [if_neg ha] at e
      exact .inr ⟨h, hq, by simpa using ha, by omega⟩
  · exact .inl ⟨h, take_not (by rw [h]; decide)⟩
  · exact .inr (.inl ⟨h, take_not (by rw [h]; decide)⟩)
theorem put_ways {T : HTab} (hT : HoT T) (s : SpotT) (q a : Int) : (putHC T s q = 103 ∧ putHT T s q = T) ∨ (putHC T s q = 104 ∧ putHT T s q = T) ∨
    (putHC T s q = 0 ∧ (1 ≤ q ∧ q ≤ 1000000000000) ∧ (s.2 == a) = true ∧ sumH (putHT T s q) a = sumH T a + q) ∨ (putHC T s q = 0 ∧ (1 ≤ q ∧ q ≤ 1000000000000) ∧ (s.2 == a) = false ∧ sumH (putHT T s q) a = sumH T a) := by
  rcases putHC_code T s q with h | h | h
  · right; right
    have e := sumH_put h a
    have hq := (put_done h).2.1
    unfold qtOk at hq
    by_cases ha : s.2 = a
    · rw [if_pos ha] at e
      exact .inl ⟨h, hq, by simpa using ha, by omega⟩
    · rw [if_neg ha] at e
      exact .inr ⟨h, hq, by simpa using ha, by omega⟩
  · exact .inl ⟨h, put_not (by rw [h]; decide)⟩
  · exact .inr (.inl ⟨h, put_not (by rw [h]; decide)⟩)
def HoSumsRel (N g : Nat) (a : Int) (w0 : World) (s i : Value) (w : World) : Prop :=
  ∃ (k n : Nat) (T : HTab), k ≤ N ∧ n ≤ k ∧ i = .int .i64 (k : Int) ∧ s = .int .i64 (sumH T a) ∧ HoAt w w0.heap.size g n T ∧ Below w0.heap.size w0 w
def HoPartRel (L : List HolT) (a : Int) (w0 : World) (s i : Value) (w : World) : Prop := ∃ k : Nat, k ≤ L.length ∧ i = .int .i64 (k : Int) ∧ s = .int .i64 (partH a (L.take k)) ∧ w0 = w
set_option maxRecDepth 100000 in
set_option maxHeartbeats 4000000 in
theorem walk_holdSums (v : Value) (l : List HoDo) (x : Int) (A : Nat → Addr) (w : World) (hr : Row hoDoV 4 w v l) (hl : ∀ z ∈ l, HoDoBig z) (x0 : -9223372036854775808 ≤ x) (x1 : x ≤ 9223372036854775807) (hS : Sents w A) :
    Calls Tryd.prog 3 #[v, .int .i64 x] w fun r w' => r = .returned (.bool true) ∧ Below w.heap.size w w' := by
  obtain ⟨va, vc, rfl⟩ := row_slice hr
  have hE := hidden (hS.on [2, 3, 12] (by decide))
  have hF := hidden (law14_first A w hS)
  by_cases h60 : (60 : Int) < (l.length : Int)
  · clear hr hl x0 x1 hS hE
    go_enter Tryd.func3, Tryd.ntmps3
    go_wp2_with fail
    refine hF.out.mono ?_
    rintro r w1 ⟨rfl, hb⟩
    replace hb := hidden hb
    go_wp2
    go_ret
    exact ⟨rfl, hb.out⟩
  · have h61 : l.length ≤ 60 := by omega
    have hx := hidden (fun k hk => rowHo_at hr k hk)
    have hbig := hidden (fun k (hk : k < l.length) => hl (l.getD k hoZ) (by rw [List.getD_eq_getElem?_getD, List.getElem?_eq_getElem hk]; exact List.getElem_mem hk))
    have hN := hidden (fun W => number_any x 32 W x0 x1 (by decide) (by decide))
    clear hr hl x0 x1 hS
    go_enter Tryd.func3, Tryd.ntmps3
    go_wp2_with fail
    refine hF.out.mono ?_
    rintro r w1 ⟨rfl, hb⟩
    replace hb := hidden hb
    clear hF
    go_wp2_with fail
    refine (hN.out _).mono ?_
    rintro r w2 ⟨rfl, rfl⟩
    clear hN
    have ha1 : 1 ≤ x % 32 + 1 := by omega
    have ha2 : x % 32 + 1 ≤ 32 := by omega
    have hn := hidden (lnew14 hb.out)
    have hg := hidden hb.out.size
    clear hb
    go_wp2_with fail
    generalize x % 32 + 1 = a at *
    have hs0 := hidden (show sumH noH a = 0 from sumHK_no a 32)
    go_loopw [7, 8] (fun s i wr => HoSumsRel l.length w1.heap.size a w s i wr) (fun _ i _ => l.length - (intOf i).toNat)
    case atStart => exact ⟨0, 0, noH, Nat.zero_le _, Nat.le_refl _, rfl, by rw [hs0.out], hn.out.1, hn.out.2⟩
    case round =>
      clear hn hs0
      obtain ⟨k, n, T, hk, hnk, rfl, rfl, hL, hb⟩ := hrel
      have hT := hidden hL.ho
      have hy := sumH_bd hL.ho a
      by_cases hlt : k < l.length
      · obtain ⟨b, o, rfl, q0, q1, q2, q3⟩ := hx.out k hlt
        have hB := hbig.out k hlt
        have hlI : (k : Int) < (l.length : Int) := by omega
        have hn6 : n < 1000000 := by omega
        have hc := hidden (fun W (hb : Below w.heap.size w W) => hoCells_of hb q0 q1 q2 q3)
        clear hx hbig q0 q1 q2 q3
        generalize l.getD k hoZ = e at *
        obtain ⟨t, m, d, q⟩ := e
        unfold HoDoBig at hB
        have hsp := hidden (show spIn (m, d) from ⟨hB.1, hB.2.1⟩)
        have hq1 := hB.2.2
        simp only at hq1
        clear hB
        obtain ⟨j0, j1, j2, j3⟩ := hc.out wr hb
        cases t with
        | true =>
          have hw := hidden (take_ways hT.out (m, d) q a)
          replace hL := hidden hL
          replace hb := hidden hb
          go_wp2_with fail
          refine (ltake14 hb.out hL.out hn6 hE.out (m, d) q).mono ?_
          rintro r w3 ⟨rfl, hL3, hb3, _⟩
          clear j0 j1 j2 j3
          obtain ⟨j0, j1, j2, j3⟩ := hc.out _ hb3
          have hT3 := hidden hL3.ho
          replace hL := hidden hL3
          replace hb := hidden hb3
          clear hL3 hb3
          generalize hT2 : takHT T (m, d) q = T' at *
          generalize hyv : sumH T a = y at *
          replace hyv := hidden hyv
          replace hT2 := hidden hT2
          rcases hw.out with ⟨p1, p2⟩ | ⟨p1, p2⟩ | ⟨p1, p2, p3, p4⟩ | ⟨p1, p2, p3, p4⟩
          all_goals first
          | (have p5 := hidden (show sumH T' a = y by rw [p2]; exact hyv.out)
             first
             | rw [p1, show errOf A 103 = errAt (A 2) from rfl]
             | rw [p1, show errOf A 113 = errAt (A 12) from rfl]
             clear hw p1 p2 hT2 hyv hT)
          | (have p5 := hidden p4
             rw [p1, errOf_fine]
             clear hw p1 p4 hT2 hyv hT)
          all_goals
            go_wp2_with fail
            refine (lsum14 hb.out hL.out a (by omega) (by omega)).mono ?_
            rintro r w5 ⟨rfl, hL5, hb5, _⟩
            clear j0 j1 j2 j3
            obtain ⟨j0, j1, j2, j3⟩ := hc.out _ hb5
            replace hL := hidden hL5
            replace hb := hidden hb5
            clear hL5 hb5
            rw [p5.out]
            go_wp2_with fail
            refine (lget14 hb.out hL.out (m, d) hsp.out).mono ?_
            rintro r w6 ⟨rfl, hL6, hb6, _⟩
            clear j0 j1 j2 j3
            obtain ⟨j0, j1, j2, j3⟩ := hc.out _ hb6
            replace hL := hidden hL6
            replace hb := hidden hb6
            clear hL6 hb6
            obtain ⟨z0, z1⟩ := hT3.out.get (m, d)
            generalize hz : getQ T' (m, d) = z at *
            replace hz := hidden hz
            go_wp2_with fail
            refine (lget14 hb.out hL.out (m, d) hsp.out).mono ?_
            rintro r w7 ⟨rfl, hL7, hb7, _⟩
            rw [hz.out]
            replace hL := hidden hL7
            replace hb := hidden hb7
            clear hL7 hb7 j0 j1 j2 j3 hc hsp
            go_wp2
            go_roundw
            case rel => exact ⟨k + 1, n + 1, T', hlt, by omega, by go_num, by rw [p5.out], hL.out, hb.out⟩
            case measure => simp [intOf]; omega
        | false =>
          have hw := hidden (put_ways hT.out (m, d) q a)
          replace hL := hidden hL
          replace hb := hidden hb
          go_wp2_with fail
          refine (lput14 hb.out hL.out hn6 hE.out (m, d) q).mono ?_
          rintro r w3 ⟨rfl, hL3, hb3, _⟩
          clear j0 j1 j2 j3
          obtain ⟨j0, j1, j2, j3⟩ := hc.out _ hb3
          have hT3 := hidden hL3.ho
          replace hL := hidden hL3
          replace hb := hidden hb3
          clear hL3 hb3
          generalize hT2 : putHT T (m, d) q = T' at *
          generalize hyv : sumH T a = y at *
          replace hyv := hidden hyv
          replace hT2 := hidden hT2
          rcases hw.out with ⟨p1, p2⟩ | ⟨p1, p2⟩ | ⟨p1, p2, p3, p4⟩ | ⟨p1, p2, p3, p4⟩
          all_goals first
          | (have p5 := hidden (show sumH T' a = y by rw [p2]; exact hyv.out)
             first
             | rw [p1, show errOf A 103 = errAt (A 2) from rfl]
             | rw [p1, show errOf A 104 = errAt (A 3) from rfl]
             clear hw p1 p2 hT2 hyv hT)
          | (have p5 := hidden p4
             rw [p1, errOf_fine]
             clear hw p1 p4 hT2 hyv hT)
          all_goals
            go_wp2_with fail
            refine (lsum14 hb.out hL.out a (by omega) (by omega)).mono ?_
            rintro r w5 ⟨rfl, hL5, hb5, _⟩
            clear j0 j1 j2 j3
            obtain ⟨j0, j1, j2, j3⟩ := hc.out _ hb5
            replace hL := hidden hL5
            replace hb := hidden hb5
            clear hL5 hb5
            rw [p5.out]
            go_wp2_with fail
            refine (lget14 hb.out hL.out (m, d) hsp.out).mono ?_
            rintro r w6 ⟨rfl, hL6, hb6, _⟩
            clear j0 j1 j2 j3
            obtain ⟨j0, j1, j2, j3⟩ := hc.out _ hb6
            replace hL := hidden hL6
            replace hb := hidden hb6
            clear hL6 hb6
            obtain ⟨z0, z1⟩ := hT3.out.get (m, d)
            generalize hz : getQ T' (m, d) = z at *
            replace hz := hidden hz
            go_wp2_with fail
            refine (lget14 hb.out hL.out (m, d) hsp.out).mono ?_
            rintro r w7 ⟨rfl, hL7, hb7, _⟩
            rw [hz.out]
            replace hL := hidden hL7
            replace hb := hidden hb7
            clear hL7 hb7 j0 j1 j2 j3 hc hsp
            go_wp2
            go_roundw
            case rel => exact ⟨k + 1, n + 1, T', hlt, by omega, by go_num, by rw [p5.out], hL.out, hb.out⟩
            case measure => simp [intOf]; omega
      · obtain rfl : k = l.length := by omega
        have hpos := hidden (allH_pos hL.ho)
        have hend := hidden (show partH a (allH T) = sumH T a from partH_all T ha1 ha2 32)
        have hlen := hidden (allH_le T)
        replace hL := hidden hL
        replace hb := hidden hb
        clear hx hbig hE hT hlt hk hnk ha1 ha2
        go_wp2_with fail
        refine (lall14 hb.out hL.out).mono ?_
        rintro r w3 ⟨⟨v3, rfl, hown⟩, _, hb3, _⟩
        have hrow := hown.row holV_len
        obtain ⟨va3, vc3, rfl⟩ := row_slice hrow
        have hx := hidden (fun k hk => rowHol_at hrow k hk)
        replace hb := hidden hb3
        clear hown hrow hb3 hL
        generalize allH T = L at *
        generalize sumH T a = y at *
        go_wp2_with fail
        go_loopw [12, 13] (fun s i wr => HoPartRel L a w3 s i wr) (fun _ i _ => L.length - (intOf i).toNat)
        case atStart => exact ⟨0, Nat.zero_le _, rfl, rfl, rfl⟩
        case round =>
          obtain ⟨j, hj, rfl, rfl, rfl⟩ := hrel
          by_cases hlt : j < L.length
          · obtain ⟨b, o, rfl, q0, q1, q2⟩ := hx.out j hlt
            have hlI : (j : Int) < (L.length : Int) := by omega
            have hj1 : (j : Int) ≤ 1024 := by have := hlen.out; omega
            have hq := hpos.out (L.getD j ((0, 0), 0)) (by rw [List.getD_eq_getElem?_getD, List.getElem?_eq_getElem hlt]; exact List.getElem_mem hlt)
            have hp := partH_bd a (L.take j) (fun x hx => hpos.out x (List.mem_of_mem_take hx))
            have hl3 : (((L.take j).length : Nat) : Int) ≤ 1024 := by rw [List.length_take]; have := hlen.out; omega
            have hn := hidden (partH_take a L j hlt)
            unfold qtOk at hq
            clear hx hpos hend hlen
            generalize L.getD j ((0, 0), 0) = e at *
            obtain ⟨⟨m, d⟩, q⟩ := e
            simp only at hq hn q0 q1 q2
            generalize partH a (L.take j) = p at *
            have hpb : 0 ≤ p ∧ p ≤ 1024000000000000 := by omega
            clear hp hl3
            by_cases hd : d = a
            · have hdb : (d == a) = true := by simpa using hd
              have hn2 := hidden (show partH a (L.take (j + 1)) = p + q by rw [hn.out, if_pos hd])
              clear hn hd
              go_wp2
              go_roundw
              case rel => exact ⟨j + 1, hlt, by go_num, by rw [hn2.out], rfl⟩
              case measure => simp [intOf]; omega
            · have hdb : (d == a) = false := by simpa using hd
              have hn2 := hidden (show partH a (L.take (j + 1)) = p by rw [hn.out, if_neg hd]; omega)
              clear hn hd
              go_wp2
              go_roundw
              case rel => exact ⟨j + 1, hlt, by go_num, by rw [hn2.out], rfl⟩
              case measure => simp [intOf]; omega
          · obtain rfl : j = L.length := by omega
            rw [List.take_length, hend.out]
            clear hx hpos hlen hend hlt hj
            go_wp2
            go_ret
            exact ⟨rfl, hb.out⟩
end Go.Proofs.YteinajoiambigaaDoor
