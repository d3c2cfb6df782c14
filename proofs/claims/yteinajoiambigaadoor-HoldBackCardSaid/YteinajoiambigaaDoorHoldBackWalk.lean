import Derived.Test.YteinajoiambigaaDoorHoldLaw
import Derived.Test.YteinajoiambigaaDoorLaidOn
import Derived.Deep.DeepCutAuto
namespace Go.Proofs.YteinajoiambigaaDoor
open Go.RowKit
set_option linter.unusedVariables false

theorem back_ways (s : SpotT) (a : Int) : (putHC noH s a = 103 ∧ putHT noH s a = noH) ∨ (spOk s ∧ qtOk a ∧ putHC noH s a = 0 ∧ putHT noH s a = updK noH s a) := by
  by_cases h : spOk s ∧ qtOk a
  · right
    have h2 := h.2
    unfold qtOk at h2
    have e0 : putHC noH s a = 0 := by unfold putHC; rw [if_pos h, getQ_no, if_neg (by omega)]
    refine ⟨h.1, h.2, e0, ?_⟩
    rw [(put_done e0).2.2.1, getQ_no]
    congr 1
    omega
  · left
    have e0 : putHC noH s a = 103 := by unfold putHC; rw [if_neg h]
    exact ⟨e0, put_not (by rw [e0]; decide)⟩
theorem one_get (s : SpotT) (a : Int) : getQ (updK noH s a) s = a := by rw [getQ_upd, if_pos rfl]
theorem back_ways2 {s : SpotT} {a : Int} (b : Int) (hs : spOk s) (ha : qtOk a) : (putHC (updK noH s a) s b = 103 ∧ putHT (updK noH s a) s b = updK noH s a) ∨ (putHC (updK noH s a) s b = 104 ∧ putHT (updK noH s a) s b = updK noH s a) ∨
    (qtOk b ∧ a + b ≤ 1000000000000 ∧ putHC (updK noH s a) s b = 0 ∧ putHT (updK noH s a) s b = updK noH s (a + b) ∧ takHC (updK noH s (a + b)) s b = 0 ∧ takHT (updK noH s (a + b)) s b = updK noH s a) := by
  rcases putHC_code (updK noH s a) s b with h | h | h
  · right; right
    obtain ⟨_, h2, h3, h4⟩ := put_done h
    rw [one_get] at h3 h4
    rw [upd_upd] at h3
    unfold qtOk at ha
    have e1 : takHC (updK noH s (a + b)) s b = 0 := by unfold takHC; rw [if_pos ⟨hs, h2⟩, one_get, if_neg (by omega)]
    refine ⟨h2, h4, h, h3, e1, ?_⟩
    unfold takHT
    rw [one_get, if_pos ⟨hs, h2, by omega⟩, if_neg (by omega), upd_upd]
    congr 1
    omega
  · exact .inl ⟨h, put_not (by rw [h]; decide)⟩
  · exact .inr (.inl ⟨h, put_not (by rw [h]; decide)⟩)
theorem back_more {s : SpotT} {a : Int} (hs : spOk s) (ha : qtOk a) : takHT (updK noH s a) s (a + 1) = updK noH s a ∧ ((decide (a < 1000000000000) = true ∧ takHC (updK noH s a) s (a + 1) = 113) ∨ (decide (a < 1000000000000) = false ∧ takHC (updK noH s a) s (a + 1) = 103)) := by
  unfold qtOk at ha
  by_cases h : a < 1000000000000
  · have e : takHC (updK noH s a) s (a + 1) = 113 := by unfold takHC; rw [if_pos ⟨hs, by unfold qtOk; omega⟩, one_get, if_pos (by omega)]
    exact ⟨take_not (by rw [e]; decide), .inl ⟨decide_eq_true h, e⟩⟩
  · have e : takHC (updK noH s a) s (a + 1) = 103 := by unfold takHC; rw [if_neg (by unfold qtOk; omega)]
    exact ⟨take_not (by rw [e]; decide), .inr ⟨decide_eq_false h, e⟩⟩
theorem back_all {s : SpotT} {a : Int} (hs : spOk s) (ha : qtOk a) : takHC (updK noH s a) s a = 0 ∧ takHT (updK noH s a) s a = noH := by
  constructor
  · unfold takHC; rw [if_pos ⟨hs, ha⟩, one_get, if_neg (by omega)]
  · unfold takHT; rw [one_get, if_pos ⟨hs, ha, by omega⟩, if_pos (by omega), drop_one]
set_option maxRecDepth 100000 in
set_option maxHeartbeats 800000 in
theorem walk_holdBack (c d a b : Int) (A : Nat → Addr) (w : World) (c0 : -9223372036854775808 ≤ c) (c1 : c ≤ 9223372036854775807) (d0 : -9223372036854775808 ≤ d) (d1 : d ≤ 9223372036854775807) (a0 : -9223372036854775808 ≤ a) (a1 : a ≤ 9223372036854775807) (b0 : -9223372036854775808 ≤ b) (b1 : b ≤ 9223372036854775807) (hS : Sents w A) :
    Calls Tryd.prog 4 #[.agg #[.int .i64 c, .int .i64 d], .int .i64 a, .int .i64 b] w fun r w' => r = .returned (.bool true) ∧ Below w.heap.size w w' := by
  have hb0 := below_spt w (c, d)
  have hS1 := hS.below hb0 (Nat.le_refl _)
  have hcs := hidden (fun W => spot_cells w W c d)
  have hend := hidden (fun W (h : Below (w.alloc (sptO (c, d))).heap.size (w.alloc (sptO (c, d))) W) => hb0.trans (h.mono hb0.size))
  have hF := hidden (law14_first A _ hS1)
  have hE := hidden (hS1.on [2, 3, 12] (by decide))
  have hI := hidden (fun W (h : Below (w.alloc (sptO (c, d))).heap.size (w.alloc (sptO (c, d))) W) => is_any A 113 113 W (hS1.below h (Nat.le_refl _)) (.inr (by decide)))
  have hsp := hidden (show spIn (c, d) from ⟨⟨c0, c1⟩, d0, d1⟩)
  clear hS hS1 hb0 b0 b1
  rcases back_ways (c, d) a with ⟨e1, e2⟩ | ⟨hs, ha, e1, e2⟩
  · replace e1 := hidden e1
    replace e2 := hidden e2
    clear hI hsp
    go_enter Tryd.func4, Tryd.ntmps4
    go_wp2_with fail
    refine hF.out.mono ?_
    rintro r w1 ⟨rfl, hb⟩
    have hn := hidden (lnew14 hb)
    obtain ⟨k0, k1⟩ := hcs.out _ hn.out.2
    clear hb hF hcs
    go_wp2_with fail
    refine (lput14 hn.out.2 hn.out.1 (by decide) hE.out (c, d) a).mono ?_
    rintro r w2 ⟨rfl, hL, hb, _⟩
    rw [e1.out, show errOf A 103 = errAt (A 2) from rfl]
    rw [e2.out] at hL
    replace hL := hidden hL
    replace hb := hidden hb
    clear hn k0 k1 hE e1 e2
    go_wp2_with fail
    refine (llen14 hb.out hL.out).mono ?_
    rintro r w3 ⟨⟨ad, cp, rfl⟩, hL2, hb2, _⟩
    rw [allH_none]
    replace hb2 := hidden (hend.out _ hb2)
    clear hL hb hL2 hend
    go_wp2
    go_ret
    exact ⟨rfl, hb2.out⟩
  · have hw2 := hidden (back_ways2 b hs ha)
    obtain ⟨em, hw3⟩ := back_more hs ha
    obtain ⟨ea, eb⟩ := back_all hs ha
    have eo := allH_one hs (x := a) (by unfold qtOk at ha; omega)
    have eg := one_get (c, d) a
    have ha2 := ha
    unfold qtOk at ha2
    replace e1 := hidden e1
    replace e2 := hidden e2
    replace em := hidden em
    replace ea := hidden ea
    replace eb := hidden eb
    replace eo := hidden eo
    replace eg := hidden eg
    replace hw3 := hidden hw3
    clear hs ha
    go_enter Tryd.func4, Tryd.ntmps4
    go_wp2_with fail
    refine hF.out.mono ?_
    rintro r w1 ⟨rfl, hb⟩
    have hn := hidden (lnew14 hb)
    obtain ⟨k0, k1⟩ := hcs.out _ hn.out.2
    clear hb hF
    go_wp2_with fail
    refine (lput14 hn.out.2 hn.out.1 (by decide) hE.out (c, d) a).mono ?_
    rintro r w2 ⟨rfl, hL, hb, _⟩
    rw [e1.out, errOf_fine]
    rw [e2.out] at hL
    clear k0 k1
    obtain ⟨k0, k1⟩ := hcs.out _ hb
    replace hL := hidden hL
    replace hb := hidden hb
    clear hn e1 e2
    go_wp2_with fail
    refine (lput14 hb.out hL.out (by decide) hE.out (c, d) b).mono ?_
    rintro r w3 ⟨rfl, hL3, hb3, _⟩
    clear k0 k1
    obtain ⟨k0, k1⟩ := hcs.out _ hb3
    replace hb := hidden hb3
    clear hL hb3
    rcases hw2.out with ⟨p1, p2⟩ | ⟨p1, p2⟩ | ⟨p0, p1, p2, p3, p4, p5⟩
    all_goals first
    | (rw [p1, show errOf A 103 = errAt (A 2) from rfl]
       rw [p2] at hL3
       have hL := hidden hL3
       clear hw2 hL3 p1 p2)
    | (rw [p1, show errOf A 104 = errAt (A 3) from rfl]
       rw [p2] at hL3
       have hL := hidden hL3
       clear hw2 hL3 p1 p2)
    | (rw [p2, errOf_fine]
       rw [p3] at hL3
       have hL := hidden hL3
       have p6 := hidden (one_get (c, d) (a + b))
       unfold qtOk at p0
       replace p4 := hidden p4
       replace p5 := hidden p5
       clear hw2 hL3 p2 p3
       go_wp2_with fail
       refine (lget14 hb.out hL.out (c, d) hsp.out).mono ?_
       rintro r w4 ⟨rfl, hL4, hb4, _⟩
       rw [p6.out]
       clear k0 k1
       obtain ⟨k0, k1⟩ := hcs.out _ hb4
       replace hL := hidden hL4
       replace hb := hidden hb4
       clear hL4 hb4 p6
       go_wp2_with fail
       refine (ltake14 hb.out hL.out (by decide) hE.out (c, d) b).mono ?_
       rintro r w5 ⟨rfl, hL5, hb5, _⟩
       rw [p4.out, errOf_fine]
       rw [p5.out] at hL5
       clear k0 k1
       obtain ⟨k0, k1⟩ := hcs.out _ hb5
       replace hL := hidden hL5
       replace hb := hidden hb5
       clear hL5 hb5 p4 p5)
    all_goals
      go_wp2_with fail
      refine (ltake14 hb.out hL.out (by decide) hE.out (c, d) (a + 1)).mono ?_
      rintro r w6 ⟨rfl, hL6, hb6, _⟩
      rw [em.out] at hL6
      clear k0 k1
      obtain ⟨k0, k1⟩ := hcs.out _ hb6
      replace hL := hidden hL6
      replace hb := hidden hb6
      clear hL6 hb6 em
      rcases hw3.out with ⟨q1, q2⟩ | ⟨q1, q2⟩
      all_goals first
      | (have q3 : takHC (updK noH (c, d) a) (c, d) (a + 1) = 113 := q2
         rw [q3]
         clear hw3 q2 q3
         go_wp2_with fail
         refine (hI.out _ hb.out).mono ?_
         rintro r w7 ⟨rfl, hb7⟩
         clear k0 k1
         replace hL := hidden (hL.out.below hb7 (Nat.le_refl _))
         have hb8 := hb.out.trans (hb7.mono hb.out.size)
         obtain ⟨k0, k1⟩ := hcs.out _ hb8
         replace hb := hidden hb8
         clear hb7 hb8 hI)
      | (rw [q2]
         clear hw3 q2 hI)
      all_goals
        go_wp2_with fail
        refine (lget14 hb.out hL.out (c, d) hsp.out).mono ?_
        rintro r w8 ⟨rfl, hL8, hb8, _⟩
        rw [eg.out]
        clear k0 k1
        obtain ⟨k0, k1⟩ := hcs.out _ hb8
        replace hL := hidden hL8
        replace hb := hidden hb8
        clear hL8 hb8 eg
        go_wp2_with fail
        refine (llen14 hb.out hL.out).mono ?_
        rintro r w9 ⟨⟨ad, cp, rfl⟩, hL9, hb9, _⟩
        rw [eo.out]
        clear k0 k1
        obtain ⟨k0, k1⟩ := hcs.out _ hb9
        replace hL := hidden hL9
        replace hb := hidden hb9
        clear hL9 hb9 eo
        go_wp2_with fail
        refine (ltake14 hb.out hL.out (by decide) hE.out (c, d) a).mono ?_
        rintro r w10 ⟨rfl, hL10, hb10, _⟩
        rw [ea.out, errOf_fine]
        rw [eb.out] at hL10
        clear k0 k1
        obtain ⟨k0, k1⟩ := hcs.out _ hb10
        replace hL := hidden hL10
        replace hb := hidden hb10
        clear hL10 hb10 ea eb
        go_wp2_with fail
        refine (llen14 hb.out hL.out).mono ?_
        rintro r w11 ⟨⟨ad2, cp2, rfl⟩, hL11, hb11, _⟩
        rw [allH_none]
        clear k0 k1
        obtain ⟨k0, k1⟩ := hcs.out _ hb11
        replace hL := hidden hL11
        replace hb := hidden hb11
        clear hL11 hb11
        go_wp2_with fail
        refine (lof14 hb.out hL.out c hsp.out.1.1 hsp.out.1.2).mono ?_
        rintro r w12 ⟨⟨ad3, cp3, rfl⟩, hL12, hb12, _⟩
        rw [ofH_none]
        replace hb := hidden (hend.out _ hb12)
        clear hL12 hb12 hL hend k0 k1
        go_wp2
        go_ret
        exact ⟨rfl, hb.out⟩
end Go.Proofs.YteinajoiambigaaDoor
