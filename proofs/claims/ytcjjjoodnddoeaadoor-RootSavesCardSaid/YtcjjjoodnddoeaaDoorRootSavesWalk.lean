import Derived.Test.YtcjjjoodnddoeaaDoorRootSavesMath
namespace Go.Proofs.YtcjjjoodnddoeaaDoor
open Go.RowKit
set_option linter.unusedVariables false

/-- the list's closure. -/
theorem list_any (l : List Int) (lv : Value) (b0 i : Nat) (W : World) (hi : i ≤ 100) (hbx : W.cell? ⟨b0, 0, none⟩ = some lv) (hr : Reads .i64 W lv l) (hb : ∀ x ∈ l, -9223372036854775808 ≤ x ∧ x ≤ 9223372036854775807) :
    Calls Tryd.prog 16 #[.int .i64 i, .pointer (some ⟨b0, 0, none⟩)] W fun r W' => ∃ v, r = .returned v ∧ NewInts (lst l i) W v W' := by
  obtain ⟨a, c, rfl⟩ := reads_slice hr
  have hal := hidden (fun o => (Below.refl W.heap.size W).alloc (Nat.le_refl _) o)
  by_cases hlt : i < l.length
  · obtain ⟨bl, o, rfl, c0⟩ := hr.cell i hlt
    have hx := hb (l.getD i 0) (by rw [List.getD_eq_getElem?_getD, List.getElem?_eq_getElem hlt]; exact List.getElem_mem hlt)
    have hl := hidden (show lst l i = [l.getD i 0 % 8000, (i : Int)] by rw [lst, if_pos hlt])
    generalize l.getD i 0 = x at *
    have hN := hidden (number_any x 8000 W hx.1 hx.2 (by decide) (by decide))
    have hki : (i : Int) < (l.length : Int) := by omega
    have hrn := hidden (reads_new (k := .i64) (w := W) (e := 3) #[.int .i64 (x % 8000), .int .i64 (i : Int)] [x % 8000, (i : Int)] 2 rfl rfl (by decide))
    clear hr hb
    go_enter Tryd.func16, Tryd.ntmps16
    go_wp2_with fail
    with_reducible refine hN.out.mono ?_
    rintro r w' ⟨rfl, rfl⟩
    go_wp2
    go_ret
    exact ⟨_, rfl, by rw [hl.out]; exact hrn.out, (fun b hb => by cases hb; exact Nat.le_refl _), hal.out _⟩
  · have hl := hidden (show lst l i = [(i : Int), 7, 8] by rw [lst, if_neg hlt])
    have hki : ¬ (i : Int) < (l.length : Int) := by omega
    have hrn := hidden (reads_new (k := .i64) (w := W) (e := 3) #[.int .i64 (i : Int), .int .i64 7, .int .i64 8] [(i : Int), 7, 8] 3 rfl rfl (by decide))
    clear hr hb
    go_enter Tryd.func16, Tryd.ntmps16
    go_wp2
    go_ret
    exact ⟨_, rfl, by rw [hl.out]; exact hrn.out, (fun b hb => by cases hb; exact Nat.le_refl _), hal.out _⟩
/-- a root that was loaded, kept while the disk goes on. -/
structure KeptR (d g m : Nat) (w : World) (br : Nat) (e : Int) (u : Value) (xs : List Int) : Prop where
  is_ : RtIs w br e u
  rd : Reads .i64 w u xs
  nb : ¬ dskB d g m br
  nu : ∀ b, u.ownBlock = some b → ¬ dskB d g m b
section
variable {d g m br : Nat} {w w' wN : World} {e : Int} {u : Value} {xs : List Int} {D : Dk}
theorem KeptR.below (h : KeptR d g m w br e u xs) (hb : Below w.heap.size w w') : KeptR d g m w' br e u xs := ⟨h.is_.below hb (Nat.le_refl _), h.rd.below hb (Nat.le_refl _), h.nb, h.nu⟩
theorem KeptR.trd (h : KeptR d g m w br e u xs) (ht : Trd (dskB d g m) w w') : KeptR d g m w' br e u xs :=
  ⟨(ht.block _ (Array.getElem?_eq_some_iff.1 (show w.heap[br]? = _ from h.is_)).1 h.nb).trans h.is_, h.rd.trd ht h.nu, h.nb, h.nu⟩
theorem kept_new {W0 W : World} (h : LawAt wN W0 d g m D) (hr : Reads .i64 W u xs) (hf : ∀ b, u.ownBlock = some b → W0.heap.size ≤ b) (hb : Below W0.heap.size W0 W) : KeptR d g m (W.alloc (rtO e u)) W.heap.size e u xs := by
  have hs := hb.size
  refine ⟨rtIs_new W e u, hr.below ((Below.refl _ W).alloc (Nat.le_refl _) _) (Nat.le_refl _), fun hd => ?_, fun b hu hd => ?_⟩
  · have := h.lt _ hd; omega
  · have := h.lt _ hd; have := hf b hu; omega
theorem KeptR.s2 (h : KeptR d g m w br e u xs) : S2 w br e u w := ⟨h.is_.c0, h.is_.c1, Below.refl _ _⟩
end
/-- two roots in their blocks. -/
abbrev S4 (wz : World) (bs : Nat) (e2 : Int) (u2 : Value) (br : Nat) (e1 : Int) (u1 : Value) (w' : World) : Prop := w'.cell? ⟨bs, 0, none⟩ = some (.int .i64 e2) ∧ w'.cell? ⟨bs, 1, none⟩ = some u2 ∧ w'.cell? ⟨br, 0, none⟩ = some (.int .i64 e1) ∧ w'.cell? ⟨br, 1, none⟩ = some u1 ∧ Below wz.heap.size wz w'
section
variable {wz w' w'' : World} {bs br : Nat} {e2 e1 : Int} {u2 u1 : Value}
theorem S4.next (h : S4 wz bs e2 u2 br e1 u1 w') (hb : Below w'.heap.size w' w'') : S4 wz bs e2 u2 br e1 u1 w'' := by
  obtain ⟨h1, h2, h3, h4, h5⟩ := h
  have k1 : w''.heap[bs]? = w'.heap[bs]? := hb.block _ (World.block_lt_of_cell? w' _ h1)
  have k2 : w''.heap[br]? = w'.heap[br]? := hb.block _ (World.block_lt_of_cell? w' _ h3)
  exact ⟨by rw [World.cell?_of_block (w := w') k1]; exact h1, by rw [World.cell?_of_block (w := w') k1]; exact h2, by rw [World.cell?_of_block (w := w') k2]; exact h3, by rw [World.cell?_of_block (w := w') k2]; exact h4, h5.trans (hb.mono h5.size)⟩
theorem S4.drew (h : S4 wz bs e2 u2 br e1 u1 w') : S4 wz bs e2 u2 br e1 u1 w'.drew := ⟨h.1, h.2.1, h.2.2.1, h.2.2.2.1, h.2.2.2.2.drew⟩
theorem S4.low (h : S4 wz bs e2 u2 br e1 u1 w') : Below wz.heap.size wz w' := h.2.2.2.2
theorem s4_of {w : World} (h2 : RtIs w bs e2 u2) (h1 : RtIs w br e1 u1) : S4 w bs e2 u2 br e1 u1 w := ⟨h2.c0, h2.c1, h1.c0, h1.c1, Below.refl _ _⟩
theorem S4.alloc (h : S4 wz bs e2 u2 br e1 u1 w') (o : Obj) : S4 wz bs e2 u2 br e1 u1 (w'.alloc o) := h.next ((Below.refl _ w').alloc (Nat.le_refl _) o)
end
theorem saves_out {l : List Int} {k : Nat} {D : Dk} (h : SvD l k D) (hk : k ≤ 80) (picks : List Int) (R : Int) (hR : 0 ≤ R ∧ R < 3) : (svC (D.arm (R + 1)) ((k : Int) + 1) (lst l (k + 1)) = 0 ∧ ((svD (D.arm (R + 1)) ((k : Int) + 1) (lst l (k + 1))).crash picks).n = 6 ∧ loadOf ((svD (D.arm (R + 1)) ((k : Int) + 1) (lst l (k + 1))).crash picks) = some ((k : Int) + 1, lst l (k + 1))) ∨ (svC (D.arm (R + 1)) ((k : Int) + 1) (lst l (k + 1)) = 109 ∧ Fell l k (rch (picks.getD 0 0)) ((svD (D.arm (R + 1)) ((k : Int) + 1) (lst l (k + 1))).crash picks)) := by
  have hc : R = 0 ∨ R = 1 ∨ R = 2 := by omega
  rcases hc with rfl | rfl | rfl
  · exact .inr (fell1 h (by omega) picks)
  · exact .inr (fell2 h (by omega) picks)
  · left
    obtain ⟨h1, h2, h3, h4⟩ := armed3 h.calm (by rw [h.n]; decide) h.ps (lst_ok l (i := k + 1) (by omega) (by omega))
    have hs : ∀ j : Nat, ((svD (D.arm 3) ((k + 1 : Nat) : Int) (lst l (k + 1))).crash picks).see j = if ((k + 1 : Nat) : Int) % 2 = (j : Int) then rtB ((k + 1 : Nat) : Int) (lst l (k + 1)) else D.see j := fun j => by rw [see_crash0 h2, h4]
    refine ⟨h1, h3.trans h.n, ?_⟩
    have : SvD l (k + 1) ((svD (D.arm 3) ((k + 1 : Nat) : Int) (lst l (k + 1))).crash picks) := by
      refine ⟨h3.trans h.n, calm_crash _ _, rfl, ?_, ?_⟩
      · rw [hs, if_pos (by omega), cont, if_neg (by omega)]
      · rw [hs, if_neg (by omega), show (k + 1 + 1) % 2 = k % 2 by omega]
        exact h.s0
    exact svD_load this (by omega)
theorem wrD_n (D : Dk) (i : Int) (xs : List Int) : (wrD D i xs).n = D.n := by
  unfold wrD
  split
  · exact power_n D
  · exact power_n D
theorem flD_n (D : Dk) : (flD D).n = D.n := by
  unfold flD
  split
  · exact power_n D
  · exact power_n D
theorem svD_n (D : Dk) (e : Int) (xs : List Int) : (svD D e xs).n = D.n := by
  unfold svD
  split
  · rfl
  · split
    · exact wrD_n _ _ _
    · rw [flD_n, wrD_n]
theorem fell_cases {l : List Int} {k : Nat} {picks : List Int} {D : Dk} (h : Fell l k (rch (picks.getD 0 0)) D) (hk : k ≤ 80) :
    (∃ E : Nat, (E = k + 1 ∨ (1 ≤ k ∧ E = k)) ∧ loadOf D = some ((E : Int), lst l E) ∧ (loadOf ((svD (D.arm 2) ((E : Int) + 1) l123).crash picks) = some ((E : Int) + 1, l123) ∨ loadOf ((svD (D.arm 2) ((E : Int) + 1) l123).crash picks) = some ((E : Int), lst l E))) ∨
    (k = 0 ∧ loadOf D = none ∧ (loadOf ((svD (D.arm 2) 1 l123).crash picks) = some (1, l123) ∨ loadOf ((svD (D.arm 2) 1 l123).crash picks) = none)) := by
  rcases fell_load h (by omega) with ⟨h1, h2⟩ | ⟨h1, h2⟩ | ⟨h1, h2⟩
  · exact .inl ⟨k + 1, .inl rfl, h1, again_load h hk (k + 1) _ h1 (.inl ⟨rfl, rfl, h2⟩)⟩
  · exact .inl ⟨k, .inr ⟨h1, rfl⟩, h2, again_load h hk k _ h2 (.inr (.inl ⟨h1, rfl, rfl⟩))⟩
  · exact .inr ⟨h1, h2, again_load h hk 0 _ h2 (.inr (.inr ⟨h1, rfl, rfl⟩))⟩
def SavesRel (l : List Int) (N : Nat) (wN : World) (d g m : Nat) (i : Value) (wr : World) : Prop := ∃ (k : Nat) (D : Dk), k ≤ N ∧ i = .int .i64 ((k : Int) + 1) ∧ LawAt wN wr d g m D ∧ SvD l k D
set_option maxRecDepth 100000 in
set_option maxHeartbeats 3200000 in
theorem walk_rootSaves (n arm : Int) (pv : Value) (picks : List Int) (lv : Value) (l : List Int) (A : Nat → Addr) (w : World) (hn : -9223372036854775808 ≤ n) (hn2 : n ≤ 9223372036854775807) (ha : -9223372036854775808 ≤ arm) (ha2 : arm ≤ 9223372036854775807)
    (hp : Reads .i64 w pv picks) (hpk : ∀ x ∈ picks, -9223372036854775808 ≤ x ∧ x ≤ 9223372036854775807) (hr : Reads .i64 w lv l) (hl : ∀ x ∈ l, -9223372036854775808 ≤ x ∧ x ≤ 9223372036854775807) (hS : Sents w A) :
    Calls Tryd.prog 5 #[.int .i64 n, .int .i64 arm, pv, lv] w fun e w' => e = .returned (.bool true) ∧ Below w.heap.size w w' := by
  have hmf : ∀ (fn : Fn) (first cap : Array Value) (w : World), (Instr.makeFunc fn first cap).run Tryd.prog w = .ok (.func fn first cap) w := fun _ _ _ _ => rfl
  obtain ⟨la, lc, rfl⟩ := reads_slice hr
  obtain ⟨pa, pc, rfl⟩ := reads_slice hp
  have hb0 := hidden ((Below.refl w.heap.size w).alloc (Nat.le_refl _) (.cells #[.slice la l.length lc] 22))
  have hF := hidden (law6_first A (w.alloc (.cells #[.slice la l.length lc] 22)) ((hS.below hb0.out (Nat.le_refl _)).on _ (by decide)))
  have hE5 := hidden (fun W (h : Below w.heap.size w W) => (hS.on [1, 2, 4, 7, 8] (by decide)).below h (Nat.le_refl _))
  have hI := hidden (fun W (h : Below w.heap.size w W) => (show Calls Tryd.prog 10 #[errAt (A 8), .int .i64 109] W fun e w' => e = .returned (.bool ((109 : Int) == 109)) ∧ Below W.heap.size W w' from is_any A 109 109 W (hS.below h (Nat.le_refl _)) (by unfold codeOk; decide)))
  have hN := hidden (fun W => number_any n 20 W hn hn2 (by decide) (by decide))
  have hR := hidden (fun W => number_any arm 3 W ha ha2 (by decide) (by decide))
  obtain ⟨N, hN1⟩ : ∃ N : Nat, n % 20 = (N : Int) := ⟨(n % 20).toNat, by omega⟩
  have hN2 : (N : Int) < 20 := by omega
  rw [hN1] at hN
  have hr3 : 0 ≤ arm % 3 ∧ arm % 3 < 3 := by omega
  generalize arm % 3 = R at *
  have hrd := hidden (fun W (h : Below w.heap.size w W) => hr.below h (Nat.le_refl _))
  have hpd := hidden (fun W (h : Below w.heap.size w W) => hp.below h (Nat.le_refl _))
  replace hl := hidden hl
  replace hpk := hidden hpk
  have hbk := hidden (fun W (hW : Below (w.alloc (.cells #[.slice la l.length lc] 22)).heap.size (w.alloc (.cells #[.slice la l.length lc] 22)) W) => show W.cell? ⟨w.heap.size, 0, none⟩ = some (.slice la l.length lc) by
    have : W.heap[w.heap.size]? = some (.cells #[.slice la l.length lc] 22 (0, 0)) := (hW.block _ (by simp)).trans (heap_alloc_new w _)
    rw [cell_of_row _ _ _ _ _ _ this]; rfl)
  clear hS hr hp hn hn2 ha ha2 hN1
  go_enter Tryd.func5, Tryd.ntmps5
  go_wp2_with fail
  with_reducible refine hF.out.mono ?_
  rintro r w1 ⟨rfl, hb1⟩
  have hw1 := hidden (hb0.out.trans (hb1.mono (by simp)))
  have hb11 := hidden hb1
  have hc1 := hbk.out _ hb1
  clear hF hb1 hb0
  go_wp2_with fail
  with_reducible refine (hN.out _).mono ?_
  rintro r w' ⟨rfl, rfl⟩
  by_cases hp6 : (6 : Int) < (picks.length : Int)
  · go_wp2_with fail
    go_ret
    exact ⟨rfl, hw1.out⟩
  · by_cases hl20 : (20 : Int) < (l.length : Int)
    · go_wp2_with fail
      go_ret
      exact ⟨rfl, hw1.out⟩
    · go_wp2_with fail
      refine (lnew (w0 := w1) 6 (by decide) (by decide) (Below.refl _ _)).mono ?_
      rintro e w2 ⟨d, g, m, rfl, h2, _, _⟩
      have hst := hidden (show LawAt w1 w2 d g m (newDk 6) ∧ SvD l 0 (newDk 6) from ⟨h2, svD_new l⟩)
      have hE := hidden (hE5.out _ hw1.out)
      have hlow := hidden (fun W (h : Below w1.heap.size w1 W) => hw1.out.trans (h.mono hw1.out.size))
      have hli := hidden (fun (i : Nat) (e : Int) (he : e = (i : Int)) (hi : i ≤ 100) W (h : Below w1.heap.size w1 W) => show Calls Tryd.prog 16 #[.int .i64 e, .pointer (some ⟨w.heap.size, 0, none⟩)] W fun r W' => ∃ v, r = .returned v ∧ NewInts (lst l i) W v W' by
        subst he
        exact list_any l _ w.heap.size i W hi (hbk.out W (hb11.out.trans (h.mono hb11.out.size))) (hrd.out W (hlow.out W h)) hl.out)
      clear h2 hb11 hbk hc1
      go_wp2_with fail
      go_loopw [13] (fun i wr => SavesRel l N w1 d g m i wr) (fun i _ => N + 1 - (RowKit.intOf i).toNat)
      case atStart => exact ⟨0, _, Nat.zero_le _, rfl, hst.out.1, hst.out.2⟩
      case round =>
        clear hst
        obtain ⟨k, D, hk, rfl, h, hD⟩ := hrel
        replace h := hidden h
        replace hD := hidden hD
        by_cases hlt : k < N
        · have hkN : (k : Int) + 1 ≤ (N : Int) := by omega
          go_wp2_with fail
          refine (hli.out (k + 1) _ rfl (by omega) wr h.out.low).mono ?_
          rintro r w3 ⟨v3, rfl, hv3, _, hb3⟩
          have h3 := hidden (h.out.below hb3)
          clear hb3
          go_wp2_with fail
          refine (made_any _ v3 _ w3 hv3 (by have := (lst_ok l (i := k + 1) (by omega) (by omega)).len; omega)).mono ?_
          rintro r w4 ⟨v4, rfl, hv4, _, hb4⟩
          have h4 := hidden (h3.out.below hb4)
          clear hb4 hv3
          go_wp2_with fail
          refine (lsave h4.out hE.out hD.out.calm (by rw [hD.out.n]; decide) (e := (k : Int) + 1) (lst_ok l (i := k + 1) (by omega) (by omega)) hv4).mono ?_
          rintro e w5 ⟨rfl, h5, _⟩
          replace h5 := hidden h5
          clear hv4 h3 h4 h
          go_wp2_with fail
          go_roundw
          case rel => exact ⟨k + 1, _, hlt, by go_num, h5.out, svD_next hD.out⟩
          case measure => simp [RowKit.intOf]; omega
        · obtain rfl : k = N := by omega
          go_wp2_with fail
          with_reducible refine (hR.out _).mono ?_
          rintro r w' ⟨rfl, rfl⟩
          go_wp2_with fail
          refine (larm6 h.out (R + 1) (by omega) (by omega)).mono ?_
          rintro e w3 ⟨rfl, h3, _⟩
          replace h3 := hidden h3
          go_wp2_with fail
          refine (hli.out (k + 1) _ rfl (by omega) w3 h3.out.low).mono ?_
          rintro r w4 ⟨v4, rfl, hv4, _, hb4⟩
          have h4 := hidden (h3.out.below hb4)
          clear hb4
          go_wp2_with fail
          refine (made_any _ v4 _ w4 hv4 (by have := (lst_ok l (i := k + 1) (by omega) (by omega)).len; omega)).mono ?_
          rintro r w5 ⟨v5, rfl, hv5, _, hb5⟩
          have h5 := hidden (h4.out.below hb5)
          clear hb5 hv4
          go_wp2_with fail
          refine (lsaveAny h5.out hE.out ((k : Int) + 1) (lst l (k + 1)) hv5).mono ?_
          rintro e w6 ⟨rfl, h6, _⟩
          replace h6 := hidden h6
          clear hv5 h5 h4 h3 h
          have hout : (svC (D.arm (R + 1)) ((k : Int) + 1) (lst l (k + 1)) = 0 ∧ ((svD (D.arm (R + 1)) ((k : Int) + 1) (lst l (k + 1))).crash picks).n = 6 ∧ loadOf ((svD (D.arm (R + 1)) ((k : Int) + 1) (lst l (k + 1))).crash picks) = some ((k : Int) + 1, lst l (k + 1))) ∨ (svC (D.arm (R + 1)) ((k : Int) + 1) (lst l (k + 1)) = 109 ∧ Fell l k (rch (picks.getD 0 0)) ((svD (D.arm (R + 1)) ((k : Int) + 1) (lst l (k + 1))).crash picks)) := saves_out hD.out (by omega) picks R hr3
          generalize svC (D.arm (R + 1)) ((k : Int) + 1) (lst l (k + 1)) = fc at *
          have hcm := hidden (calm_crash (svD (D.arm (R + 1)) ((k : Int) + 1) (lst l (k + 1))) picks)
          go_wp2_with fail
          refine (lcrashIn h6.out (hpd.out w1 hw1.out) hpk.out).mono ?_
          rintro e w7 ⟨rfl, h7, _⟩
          replace h7 := hidden h7
          generalize (svD (D.arm (R + 1)) ((k : Int) + 1) (lst l (k + 1))).crash picks = D2 at *
          clear h6 hD hR hr3
          have hlm := hidden (fun (i : Nat) (hi : 1 ≤ i) (hi2 : i ≤ 100) => (lst_ok l hi hi2).len)
          rcases hout with ⟨rfl, hn6, hld⟩ | ⟨rfl, hfell⟩
          · go_wp2_with fail
            refine (lload1 h7.out hE.out hcm.out (by rw [hn6]; decide) hld).mono ?_
            rintro e w8 ⟨u8, rfl, h8, hu8, hf8, hb8⟩
            obtain ⟨ua, uc, rfl⟩ := reads_slice hu8
            have hK := kept_new (e := (k : Int) + 1) h7.out hu8 hf8 hb8
            have hwA := hidden (hlow.out _ ((h8.below ((Below.refl _ w8).alloc (Nat.le_refl _) (rtO ((k : Int) + 1) (.slice ua (lst l (k + 1)).length uc)))).low))
            have hlA := hidden (fun W (hW : Below (w8.alloc (rtO ((k : Int) + 1) (.slice ua (lst l (k + 1)).length uc))).heap.size (w8.alloc (rtO ((k : Int) + 1) (.slice ua (lst l (k + 1)).length uc))) W) => (((h8.below ((Below.refl _ w8).alloc (Nat.le_refl _) (rtO ((k : Int) + 1) (.slice ua (lst l (k + 1)).length uc)))).below hW).low))
            have hd := hidden hK.s2.drew
            have huA := hidden hK.rd
            have hf0 : errOf A 0 = .nilIface := rfl
            clear hK hb8 hf8 hu8 h8 h7
            rw [hf0]
            have h0k : (0 : Int) ≤ (k : Int) := by omega
            have hw64 : IntKind.i64.wrap ((k : Int) + 1) = (k : Int) + 1 := by rw [IntKind.wrap_i64]; omega
            have hl1 : (lst l (k + 1)).length ≤ 1000000 := by have := hlm.out (k + 1) (by omega) (by omega); omega
            have hli1 := hidden (fun W (hW : Below (w8.alloc (rtO ((k : Int) + 1) (.slice ua (lst l (k + 1)).length uc))).heap.size (w8.alloc (rtO ((k : Int) + 1) (.slice ua (lst l (k + 1)).length uc))) W) => hli.out (k + 1) ((k : Int) + 1) rfl (by omega) W (hlA.out W hW))
            have hMd := hidden (fun W v (hv : Reads .i64 W v (lst l (k + 1))) => made_any ((k : Int) + 1) v _ W hv (by omega))
            have hSm := hidden (fun W v (hW : Below (w8.alloc (rtO ((k : Int) + 1) (.slice ua (lst l (k + 1)).length uc))).heap.size (w8.alloc (rtO ((k : Int) + 1) (.slice ua (lst l (k + 1)).length uc))) W) hv => same_yes ((k : Int) + 1) _ v (lst l (k + 1)) W (huA.out.below hW (Nat.le_refl _)) hv hl1)
            generalize lst l (k + 1) = xs at *
            go_wp2_with fail
            generalize w8.alloc (rtO ((k : Int) + 1) (.slice ua xs.length uc)) = wA at *
            generalize w8.heap.size = br at *
            go_region_held3 (fun w' => w'.cell? ⟨br, 0, none⟩ = some (.int .i64 ((k : Int) + 1)) ∧ w'.cell? ⟨br, 1, none⟩ = some (.slice ua xs.length uc) ∧ Below wA.heap.size wA w')
              ((first | assumption | exact hd.out | exact S2.next (by assumption) hbS | exact S2.next (by assumption) hbM | exact S2.next (by assumption) hbL))
              (first
                | (go_at_call 16; (with_reducible refine (hli1.out _ (by exact S2.low (by assumption))).mono ?_); rintro r wL ⟨uL, rfl, huL, hfL, hbL⟩)
                | (go_at_call 9; (with_reducible refine (hMd.out _ _ huL).mono ?_); rintro r wM ⟨uM, rfl, huM, hfM, hbM⟩)
                | (go_at_call 14; (with_reducible refine (hSm.out _ _ (by exact S2.low (by assumption)) huM).mono ?_); rintro r wS ⟨rfl, hbS⟩))
            have hh := S2.low (by assumption)
            replace hh := hidden (hwA.out.trans (hh.mono hwA.out.size))
            clear huM hfM hbM hbS huL hfL hbL
            go_wp2
            go_ret
            exact ⟨rfl, hh.out⟩
          · have hn2' := hfell.n
            have h109 : ((109 : Int) == 109) = true := rfl
            rw [h109] at hI
            have hf9 : errOf A 109 = errAt (A 8) := rfl
            rcases fell_cases hfell (by omega) with ⟨E, hEk, hld, hag⟩ | ⟨hk0, hld, hag⟩
            · have hE1 : 1 ≤ E ∧ E ≤ 21 := by omega
              go_wp2_with fail
              refine (lload1 h7.out hE.out hcm.out (by rw [hn2']; decide) hld).mono ?_
              rintro e w8 ⟨u8, rfl, h8, hu8, hf8, hb8⟩
              obtain ⟨ua, uc, rfl⟩ := reads_slice hu8
              have hK := hidden (kept_new (e := (E : Int)) h7.out hu8 hf8 hb8)
              have hA := hidden (h8.below ((Below.refl _ w8).alloc (Nat.le_refl _) (rtO (E : Int) (.slice ua (lst l E).length uc))))
              have hlE : (lst l E).length ≤ 1000000 := by have := hlm.out E (by omega) (by omega); omega
              have hliE := hidden (fun W (hW : Below w1.heap.size w1 W) => hli.out E (E : Int) rfl (by omega) W hW)
              have hMd := hidden (fun W v (hv : Reads .i64 W v (lst l E)) => made_any (E : Int) v _ W hv (by omega))
              have c0 := hK.out.is_.c0
              clear hb8 hf8 hu8 h8 h7 hfell
              generalize lst l E = xs at *
              go_upto_region 24 with fail
              generalize w8.alloc (rtO (E : Int) (.slice ua xs.length uc)) = wA at *
              generalize w8.heap.size = br at *
              go_cut [129] (fun s129 wx => s129 = .bool false ∧ Below wA.heap.size wA wx)
              case first =>
                rcases hEk with rfl | ⟨hk1, rfl⟩
                · have q1 : (((k + 1 : Nat) : Int) != (k : Int) + 1) = false := by rw [bne_eq_false_iff_eq]; rfl
                  go_wp2_with fail
                  refine (hI.out wA (hlow.out _ hA.out.low)).mono ?_
                  rintro r w9 ⟨rfl, hb9⟩
                  have c0 := (hK.out.below hb9).is_.c0
                  have hb9' := hidden hb9
                  clear hb9
                  go_wp2_with fail
                  go_meet
                  exact ⟨rfl, hb9'.out⟩
                · have q1 : ((E : Int) != (E : Int) + 1) = true := by rw [bne_iff_ne]; omega
                  have q2 : ((E : Int) != (E : Int)) = false := by rw [bne_eq_false_iff_eq]
                  go_wp2_with fail
                  refine (hI.out wA (hlow.out _ hA.out.low)).mono ?_
                  rintro r w9 ⟨rfl, hb9⟩
                  have c0 := (hK.out.below hb9).is_.c0
                  have hb9' := hidden hb9
                  clear hb9
                  go_wp2_with fail
                  go_meet
                  exact ⟨rfl, hb9'.out⟩
              case rest =>
                obtain ⟨rfl, hbc⟩ := hcut
                have hA2 := hidden (hA.out.below hbc)
                have hK2 := hidden (hK.out.below hbc)
                have hd := hidden hK2.out.s2.drew
                clear hbc hA hK c0 hEk
                have hSm := hidden (fun W v (hW : Below wc.heap.size wc W) hv => same_yes (E : Int) _ v xs W (hK2.out.rd.below hW (Nat.le_refl _)) hv hlE)
                have hli1 := hidden (fun W (hW : Below wc.heap.size wc W) => hliE.out W (hA2.out.below hW).low)
                go_wp2_with fail
                go_region_held3 (fun w' => w'.cell? ⟨br, 0, none⟩ = some (.int .i64 (E : Int)) ∧ w'.cell? ⟨br, 1, none⟩ = some (.slice ua xs.length uc) ∧ Below wc.heap.size wc w')
                  ((first | assumption | exact hd.out | exact S2.next (by assumption) hbS | exact S2.next (by assumption) hbM | exact S2.next (by assumption) hbL))
                  (first
                    | (go_at_call 16; (with_reducible refine (hli1.out _ (by exact S2.low (by assumption))).mono ?_); rintro r wL ⟨uL, rfl, huL, hfL, hbL⟩)
                    | (go_at_call 9; (with_reducible refine (hMd.out _ _ huL).mono ?_); rintro r wM ⟨uM, rfl, huM, hfM, hbM⟩)
                    | (go_at_call 14; (with_reducible refine (hSm.out _ _ (by exact S2.low (by assumption)) huM).mono ?_); rintro r wS ⟨rfl, hbS⟩))
                have hh := S2.low (by assumption)
                have hA3 := hidden (hA2.out.below hh)
                have hK3 := hidden (hK2.out.below hh)
                have c0 := hK3.out.is_.c0
                clear huM hfM hbM hbS huL hfL hbL hh hA2 hK2 hd hSm hli1
                go_wp2_with fail
                refine (larm6 hA3.out 2 (by decide) (by decide)).mono ?_
                rintro e w10 ⟨rfl, h10, ht10⟩
                have hK10 := hidden (hK3.out.trd ht10)
                replace h10 := hidden h10
                have hrn3 := hidden (fun W : World => reads_new (k := .i64) (w := W) (e := 3) #[.int .i64 1, .int .i64 2, .int .i64 3] l123 3 rfl rfl (by decide))
                clear ht10 hK3 hA3 c0
                go_wp2_with fail
                refine (made_any _ _ l123 _ (hrn3.out _) (by decide)).mono ?_
                rintro r w12 ⟨v12, rfl, hv12, _, hb12⟩
                have h12 := hidden ((h10.out.below ((Below.refl _ _).alloc (Nat.le_refl _) _)).below hb12)
                have hK12 := hidden ((hK10.out.below ((Below.refl _ _).alloc (Nat.le_refl _) _)).below hb12)
                clear hb12 h10 hK10
                go_wp2_with fail
                refine (lsaveAny h12.out hE.out ((E : Int) + 1) l123 hv12).mono ?_
                rintro e w13 ⟨rfl, h13, ht13⟩
                have hK13 := hidden (hK12.out.trd ht13)
                replace h13 := hidden h13
                clear ht13 hK12 h12 hv12
                go_wp2_with fail
                refine (lcrashIn h13.out (hpd.out w1 hw1.out) hpk.out).mono ?_
                rintro e w14 ⟨rfl, h14, ht14⟩
                have hK14 := hidden (hK13.out.trd ht14)
                replace h14 := hidden h14
                have hcm5 := hidden (calm_crash (svD (D2.arm 2) ((E : Int) + 1) l123) picks)
                have hn5 := hidden (show ((svD (D2.arm 2) ((E : Int) + 1) l123).crash picks).n = 6 from (svD_n (D2.arm 2) ((E : Int) + 1) l123).trans hn2')
                clear ht14 hK13 h13
                generalize (svD (D2.arm 2) ((E : Int) + 1) l123).crash picks = D5 at *
                rcases hag with hld5 | hld5
                · go_wp2_with fail
                  refine (lload1 h14.out hE.out hcm5.out (by rw [hn5.out]; decide) hld5).mono ?_
                  rintro e w15 ⟨u15, rfl, h15, hu15, hf15, hb15⟩
                  obtain ⟨va, vc, rfl⟩ := reads_slice hu15
                  have hKs := kept_new (e := (E : Int) + 1) h14.out hu15 hf15 hb15
                  have hKr := (hK14.out.below hb15).below ((Below.refl _ w15).alloc (Nat.le_refl _) (rtO ((E : Int) + 1) (.slice va (l123).length vc)))
                  have hB := hidden (h15.below ((Below.refl _ w15).alloc (Nat.le_refl _) (rtO ((E : Int) + 1) (.slice va (l123).length vc))))
                  have hd := hidden (s4_of hKs.is_ hKr.is_).drew
                  have hd0 := hidden (s4_of hKs.is_ hKr.is_)
                  have hr2 := hidden hKs.rd
                  have hr1 := hidden hKr.rd
                  clear hKs hKr hb15 hu15 hf15 h15 h14 hK14
                  go_wp2_with fail
                  generalize w15.alloc (rtO ((E : Int) + 1) (.slice va (l123).length vc)) = wB at *
                  generalize w15.heap.size = bs at *
                  have hrn := hidden (fun W : World => reads_new (k := .i64) (w := W) (e := 3) #[.int .i64 1, .int .i64 2, .int .i64 3] l123 3 rfl rfl (by decide))
                  have hM5 := hidden (fun W v (hv : Reads .i64 W v l123) => made_any ((E : Int) + 1) v l123 W hv (by decide))
                  have hS5 := hidden (fun W v (hW : Below wB.heap.size wB W) hv => same_yes ((E : Int) + 1) _ v l123 W (hr2.out.below hW (Nat.le_refl _)) hv (by decide))
                  refine wp_region_held_drew (S := (fun w' => w'.cell? ⟨bs, 0, none⟩ = some (.int .i64 ((E : Int) + 1)) ∧ w'.cell? ⟨bs, 1, none⟩ = some (.slice va (l123).length vc) ∧ w'.cell? ⟨br, 0, none⟩ = some (.int .i64 ((E : Int))) ∧ w'.cell? ⟨br, 1, none⟩ = some (.slice ua xs.length uc) ∧ Below wB.heap.size wB w')) (by kernel_rfl) hd.out (fun hHeld => ?_)
                  refine take_plain 0 162 (.nilIface) rfl rfl (by kernel_rfl) (by kernel_rfl) (by kernel_rfl) (fun _ _ _ h => h) (by rfl) ?_ hHeld ?_
                  · intro w hSw
                    try dsimp only at hSw
                    go_simp
                  simp only [Act.put, List.setIfInBounds_toArray, List.set_cons_zero, List.set_cons_succ]
                  refine take_plain 1 163 (.bool false) rfl rfl (by kernel_rfl) (by kernel_rfl) (by kernel_rfl) (fun _ _ _ h => h) (by rfl) ?_ hHeld ?_
                  · intro w hSw
                    try dsimp only at hSw
                    go_simp
                  simp only [Act.put, List.setIfInBounds_toArray, List.set_cons_zero, List.set_cons_succ]
                  refine take_plain 2 164 (.bool false) rfl rfl (by kernel_rfl) (by kernel_rfl) (by kernel_rfl) (fun _ _ _ h => h) (by rfl) ?_ hHeld ?_
                  · intro w hSw
                    try dsimp only at hSw
                    go_simp
                  simp only [Act.put, List.setIfInBounds_toArray, List.set_cons_zero, List.set_cons_succ]
                  refine take_plain 3 165 (.bool true) rfl rfl (by kernel_rfl) (by kernel_rfl) (by kernel_rfl) (fun _ _ _ h => h) (by rfl) ?_ hHeld ?_
                  · intro w hSw
                    try dsimp only at hSw
                    go_simp
                  simp only [Act.put, List.setIfInBounds_toArray, List.set_cons_zero, List.set_cons_succ]
                  refine take_plain 4 166 (.bool true) rfl rfl (by kernel_rfl) (by kernel_rfl) (by kernel_rfl) (fun _ _ _ h => h) (by rfl) ?_ hHeld ?_
                  · intro w hSw
                    try dsimp only at hSw
                    go_simp
                  simp only [Act.put, List.setIfInBounds_toArray, List.set_cons_zero, List.set_cons_succ]
                  refine take_plain 5 167 (.bool true) rfl rfl (by kernel_rfl) (by kernel_rfl) (by kernel_rfl) (fun _ _ _ h => h) (by rfl) ?_ hHeld ?_
                  · intro w hSw
                    try dsimp only at hSw
                    go_simp
                  simp only [Act.put, List.setIfInBounds_toArray, List.set_cons_zero, List.set_cons_succ]
                  refine take_struck 6 168 rfl rfl (by kernel_rfl) (by kernel_rfl) (by kernel_rfl) (fun _ _ _ h => h) (by rfl) hHeld ?_
                  simp only [Act.put, List.setIfInBounds_toArray, List.set_cons_zero, List.set_cons_succ]
                  refine take_struck 7 169 rfl rfl (by kernel_rfl) (by kernel_rfl) (by kernel_rfl) (fun _ _ _ h => h) (by rfl) hHeld ?_
                  simp only [Act.put, List.setIfInBounds_toArray, List.set_cons_zero, List.set_cons_succ]
                  refine take_struck 8 170 rfl rfl (by kernel_rfl) (by kernel_rfl) (by kernel_rfl) (fun _ _ _ h => h) (by rfl) hHeld ?_
                  simp only [Act.put, List.setIfInBounds_toArray, List.set_cons_zero, List.set_cons_succ]
                  refine take_struck 9 171 rfl rfl (by kernel_rfl) (by kernel_rfl) (by kernel_rfl) (fun _ _ _ h => h) (by rfl) hHeld ?_
                  simp only [Act.put, List.setIfInBounds_toArray, List.set_cons_zero, List.set_cons_succ]
                  refine take_plain 10 172 (.bool true) rfl rfl (by kernel_rfl) (by kernel_rfl) (by kernel_rfl) (fun _ _ _ h => h) (by rfl) ?_ hHeld ?_
                  · intro w hSw
                    try dsimp only at hSw
                    go_simp
                  simp only [Act.put, List.setIfInBounds_toArray, List.set_cons_zero, List.set_cons_succ]
                  refine take_plain 11 173 (.bool false) rfl rfl (by kernel_rfl) (by kernel_rfl) (by kernel_rfl) (fun _ _ _ h => h) (by rfl) ?_ hHeld ?_
                  · intro w hSw
                    try dsimp only at hSw
                    go_simp
                  simp only [Act.put, List.setIfInBounds_toArray, List.set_cons_zero, List.set_cons_succ]
                  refine take_plain 12 174 (.bool false) rfl rfl (by kernel_rfl) (by kernel_rfl) (by kernel_rfl) (fun _ _ _ h => h) (by rfl) ?_ hHeld ?_
                  · intro w hSw
                    try dsimp only at hSw
                    go_simp
                  simp only [Act.put, List.setIfInBounds_toArray, List.set_cons_zero, List.set_cons_succ]
                  refine take_plain 13 175 (.bool false) rfl rfl (by kernel_rfl) (by kernel_rfl) (by kernel_rfl) (fun _ _ _ h => h) (by rfl) ?_ hHeld ?_
                  · intro w hSw
                    try dsimp only at hSw
                    go_simp
                  simp only [Act.put, List.setIfInBounds_toArray, List.set_cons_zero, List.set_cons_succ]
                  refine take_plain 14 176 (.bool true) rfl rfl (by kernel_rfl) (by kernel_rfl) (by kernel_rfl) (fun _ _ _ h => h) (by rfl) ?_ hHeld ?_
                  · intro w hSw
                    try dsimp only at hSw
                    go_simp
                  simp only [Act.put, List.setIfInBounds_toArray, List.set_cons_zero, List.set_cons_succ]
                  refine take_plain 15 177 (.bool true) rfl rfl (by kernel_rfl) (by kernel_rfl) (by kernel_rfl) (fun _ _ _ h => h) (by rfl) ?_ hHeld ?_
                  · intro w hSw
                    try dsimp only at hSw
                    go_simp
                  simp only [Act.put, List.setIfInBounds_toArray, List.set_cons_zero, List.set_cons_succ]
                  refine take_plain 16 178 (.pointer (some ⟨bs, 0, none⟩)) rfl rfl (by kernel_rfl) (by kernel_rfl) (by kernel_rfl) (fun _ _ _ h => h) (by rfl) ?_ hHeld ?_
                  · intro w hSw
                    try dsimp only at hSw
                    go_simp
                  simp only [Act.put, List.setIfInBounds_toArray, List.set_cons_zero, List.set_cons_succ]
                  refine take_plain 17 179 (.int .i64 ((E : Int) + 1)) rfl rfl (by kernel_rfl) (by kernel_rfl) (by kernel_rfl) (fun _ _ _ h => h) (by rfl) ?_ hHeld ?_
                  · intro w hSw
                    try dsimp only at hSw
                    go_simp
                  simp only [Act.put, List.setIfInBounds_toArray, List.set_cons_zero, List.set_cons_succ]
                  refine take_plain 18 180 (.int .i64 ((E : Int) + 1)) rfl rfl (by kernel_rfl) (by kernel_rfl) (by kernel_rfl) (fun _ _ _ h => h) (by rfl) ?_ hHeld ?_
                  · intro w hSw
                    try dsimp only at hSw
                    go_simp
                  simp only [Act.put, List.setIfInBounds_toArray, List.set_cons_zero, List.set_cons_succ]
                  refine take_plain 19 181 (.bool false) rfl rfl (by kernel_rfl) (by kernel_rfl) (by kernel_rfl) (fun _ _ _ h => h) (by rfl) ?_ hHeld ?_
                  · intro w hSw
                    try dsimp only at hSw
                    go_simp
                  simp only [Act.put, List.setIfInBounds_toArray, List.set_cons_zero, List.set_cons_succ]
                  refine take_plain 20 182 (.bool false) rfl rfl (by kernel_rfl) (by kernel_rfl) (by kernel_rfl) (fun _ _ _ h => h) (by rfl) ?_ hHeld ?_
                  · intro w hSw
                    try dsimp only at hSw
                    go_simp
                  simp only [Act.put, List.setIfInBounds_toArray, List.set_cons_zero, List.set_cons_succ]
                  refine take_plain 21 183 (.bool false) rfl rfl (by kernel_rfl) (by kernel_rfl) (by kernel_rfl) (fun _ _ _ h => h) (by rfl) ?_ hHeld ?_
                  · intro w hSw
                    try dsimp only at hSw
                    go_simp
                  simp only [Act.put, List.setIfInBounds_toArray, List.set_cons_zero, List.set_cons_succ]
                  refine take_struck 22 184 rfl rfl (by kernel_rfl) (by kernel_rfl) (by kernel_rfl) (fun _ _ _ h => h) (by rfl) hHeld ?_
                  simp only [Act.put, List.setIfInBounds_toArray, List.set_cons_zero, List.set_cons_succ]
                  refine take_struck 23 185 rfl rfl (by kernel_rfl) (by kernel_rfl) (by kernel_rfl) (fun _ _ _ h => h) (by rfl) hHeld ?_
                  simp only [Act.put, List.setIfInBounds_toArray, List.set_cons_zero, List.set_cons_succ]
                  refine take_struck 24 186 rfl rfl (by kernel_rfl) (by kernel_rfl) (by kernel_rfl) (fun _ _ _ h => h) (by rfl) hHeld ?_
                  simp only [Act.put, List.setIfInBounds_toArray, List.set_cons_zero, List.set_cons_succ]
                  refine take_struck 25 187 rfl rfl (by kernel_rfl) (by kernel_rfl) (by kernel_rfl) (fun _ _ _ h => h) (by rfl) hHeld ?_
                  simp only [Act.put, List.setIfInBounds_toArray, List.set_cons_zero, List.set_cons_succ]
                  refine take_plain 26 188 (.bool false) rfl rfl (by kernel_rfl) (by kernel_rfl) (by kernel_rfl) (fun _ _ _ h => h) (by rfl) ?_ hHeld ?_
                  · intro w hSw
                    try dsimp only at hSw
                    go_simp
                  simp only [Act.put, List.setIfInBounds_toArray, List.set_cons_zero, List.set_cons_succ]
                  refine take_plain 27 189 (.bool false) rfl rfl (by kernel_rfl) (by kernel_rfl) (by kernel_rfl) (fun _ _ _ h => h) (by rfl) ?_ hHeld ?_
                  · intro w hSw
                    try dsimp only at hSw
                    go_simp
                  simp only [Act.put, List.setIfInBounds_toArray, List.set_cons_zero, List.set_cons_succ]
                  refine take_plain 28 190 (.bool false) rfl rfl (by kernel_rfl) (by kernel_rfl) (by kernel_rfl) (fun _ _ _ h => h) (by rfl) ?_ hHeld ?_
                  · intro w hSw
                    try dsimp only at hSw
                    go_simp
                  simp only [Act.put, List.setIfInBounds_toArray, List.set_cons_zero, List.set_cons_succ]
                  refine take_plain 29 191 (.bool true) rfl rfl (by kernel_rfl) (by kernel_rfl) (by kernel_rfl) (fun _ _ _ h => h) (by rfl) ?_ hHeld ?_
                  · intro w hSw
                    try dsimp only at hSw
                    go_simp
                  simp only [Act.put, List.setIfInBounds_toArray, List.set_cons_zero, List.set_cons_succ]
                  refine take_plain 30 192 (.bool true) rfl rfl (by kernel_rfl) (by kernel_rfl) (by kernel_rfl) (fun _ _ _ h => h) (by rfl) ?_ hHeld ?_
                  · intro w hSw
                    try dsimp only at hSw
                    go_simp
                  simp only [Act.put, List.setIfInBounds_toArray, List.set_cons_zero, List.set_cons_succ]
                  refine take_plain 31 193 (.pointer (some ⟨bs, 0, none⟩)) rfl rfl (by kernel_rfl) (by kernel_rfl) (by kernel_rfl) (fun _ _ _ h => h) (by rfl) ?_ hHeld ?_
                  · intro w hSw
                    try dsimp only at hSw
                    go_simp
                  simp only [Act.put, List.setIfInBounds_toArray, List.set_cons_zero, List.set_cons_succ]
                  refine take_plain 32 194 (.int .i64 ((E : Int) + 1)) rfl rfl (by kernel_rfl) (by kernel_rfl) (by kernel_rfl) (fun _ _ _ h => h) (by rfl) ?_ hHeld ?_
                  · intro w hSw
                    try dsimp only at hSw
                    go_simp
                  simp only [Act.put, List.setIfInBounds_toArray, List.set_cons_zero, List.set_cons_succ]
                  refine take_plain 33 195 (.int .i64 ((E : Int) + 1)) rfl rfl (by kernel_rfl) (by kernel_rfl) (by kernel_rfl) (fun _ _ _ h => h) (by rfl) ?_ hHeld ?_
                  · intro w hSw
                    try dsimp only at hSw
                    go_simp
                  simp only [Act.put, List.setIfInBounds_toArray, List.set_cons_zero, List.set_cons_succ]
                  refine take_plain 34 196 (.bool true) rfl rfl (by kernel_rfl) (by kernel_rfl) (by kernel_rfl) (fun _ _ _ h => h) (by rfl) ?_ hHeld ?_
                  · intro w hSw
                    try dsimp only at hSw
                    go_simp
                  simp only [Act.put, List.setIfInBounds_toArray, List.set_cons_zero, List.set_cons_succ]
                  refine take_plain 35 197 (.bool true) rfl rfl (by kernel_rfl) (by kernel_rfl) (by kernel_rfl) (fun _ _ _ h => h) (by rfl) ?_ hHeld ?_
                  · intro w hSw
                    try dsimp only at hSw
                    go_simp
                  simp only [Act.put, List.setIfInBounds_toArray, List.set_cons_zero, List.set_cons_succ]
                  refine take_plain 36 198 (.bool true) rfl rfl (by kernel_rfl) (by kernel_rfl) (by kernel_rfl) (fun _ _ _ h => h) (by rfl) ?_ hHeld ?_
                  · intro w hSw
                    try dsimp only at hSw
                    go_simp
                  simp only [Act.put, List.setIfInBounds_toArray, List.set_cons_zero, List.set_cons_succ]
                  refine take_plain 37 199 (.agg #[.int .i64 ((E : Int) + 1), .slice va (l123).length vc]) rfl rfl (by kernel_rfl) (by kernel_rfl) (by kernel_rfl) (fun _ _ _ h => h) (by rfl) ?_ hHeld ?_
                  · intro w hSw
                    try dsimp only at hSw
                    go_simp
                  simp only [Act.put, List.setIfInBounds_toArray, List.set_cons_zero, List.set_cons_succ]
                  refine take_plain 38 200 (.int .i64 ((E : Int) + 1)) rfl rfl (by kernel_rfl) (by kernel_rfl) (by kernel_rfl) (fun _ _ _ h => h) (by rfl) ?_ hHeld ?_
                  · intro w hSw
                    try dsimp only at hSw
                    go_simp
                  simp only [Act.put, List.setIfInBounds_toArray, List.set_cons_zero, List.set_cons_succ]
                  refine wpAnyH_ready (rs := [39]) (by kernel_rfl) (by simp) ?_
                  refine AllReadyH.cons rfl (fun K hK => ?_) AllReadyH.nil
                  go_simp
                  refine hK.out _ _ ?_ (fun hHeld => ?_)
                  · first | exact (S4.alloc hHeld _) | exact S4.drew (S4.alloc hHeld _) | exact S4.drew (S4.alloc hd0.out _) | exact S4.alloc hd.out _
                  clear hK K
                  refine wpAnyH_ready (rs := [40]) (by kernel_rfl) (by simp) ?_
                  refine AllReadyH.cons rfl (fun K hK => ?_) AllReadyH.nil
                  go_simp
                  go_at_call 9
                  refine (hM5.out _ _ (by first | exact hrn.out _ | exact (hrn.out _).same (fun _ _ => rfl))).mono ?_
                  rintro r wM ⟨uM, rfl, huM, hfM, hbM⟩
                  go_wp2_with fail
                  refine hK.out _ _ ?_ (fun hHeld => ?_)
                  · exact S4.next hHeld hbM
                  clear hK K
                  refine wpAnyH_ready (rs := [41]) (by kernel_rfl) (by simp) ?_
                  refine AllReadyH.cons rfl (fun K hK => ?_) AllReadyH.nil
                  go_simp
                  go_at_call 14
                  with_reducible refine (hS5.out _ _ (S4.low hHeld) huM).mono ?_
                  rintro r wS ⟨rfl, hbS⟩
                  go_wp2_with fail
                  refine hK.out _ _ ?_ (fun hHeld => ?_)
                  · exact S4.next hHeld hbS
                  clear hK K
                  refine take_plain 42 204 (.bool false) rfl rfl (by kernel_rfl) (by kernel_rfl) (by kernel_rfl) (fun _ _ _ h => h) (by rfl) ?_ hHeld ?_
                  · intro w hSw
                    try dsimp only at hSw
                    go_simp
                  simp only [Act.put, List.setIfInBounds_toArray, List.set_cons_zero, List.set_cons_succ]
                  refine take_plain 43 205 (.bool false) rfl rfl (by kernel_rfl) (by kernel_rfl) (by kernel_rfl) (fun _ _ _ h => h) (by rfl) ?_ hHeld ?_
                  · intro w hSw
                    try dsimp only at hSw
                    go_simp
                  simp only [Act.put, List.setIfInBounds_toArray, List.set_cons_zero, List.set_cons_succ]
                  refine take_plain 44 206 (.bool false) rfl rfl (by kernel_rfl) (by kernel_rfl) (by kernel_rfl) (fun _ _ _ h => h) (by rfl) ?_ hHeld ?_
                  · intro w hSw
                    try dsimp only at hSw
                    go_simp
                  simp only [Act.put, List.setIfInBounds_toArray, List.set_cons_zero, List.set_cons_succ]
                  refine wpAnyH_done (by kernel_rfl) ?_ _
                  have hh := S4.low hHeld
                  have h16 := hidden (hB.out.below hh)
                  have c0 := hHeld.1
                  have hrn4 := hidden (fun W : World => reads_new (k := .i64) (w := W) (e := 3) #[.int .i64 4] [4] 1 rfl rfl (by decide))
                  clear hh hHeld
                  go_wp2_with fail
                  refine (made_any _ _ [4] _ (hrn4.out _) (by decide)).mono ?_
                  rintro r w17 ⟨v17, rfl, hv17, _, hb17⟩
                  have h17 := hidden ((h16.out.below ((Below.refl _ _).alloc (Nat.le_refl _) _)).below hb17)
                  clear hb17
                  go_wp2_with fail
                  refine (lsave h17.out hE.out hcm5.out (by rw [hn5.out]; decide) (by exact ⟨by omega, by omega, by decide, by decide⟩) hv17).mono ?_
                  rintro e w18 ⟨rfl, h18, _⟩
                  have hend := hidden (hlow.out _ h18.low)
                  clear h18 h17 hv17
                  go_wp2_with fail
                  go_ret
                  exact ⟨rfl, hend.out⟩
                · go_wp2_with fail
                  refine (lload1 h14.out hE.out hcm5.out (by rw [hn5.out]; decide) hld5).mono ?_
                  rintro e w15 ⟨u15, rfl, h15, hu15, hf15, hb15⟩
                  obtain ⟨va, vc, rfl⟩ := reads_slice hu15
                  have hKs := kept_new (e := (E : Int)) h14.out hu15 hf15 hb15
                  have hKr := (hK14.out.below hb15).below ((Below.refl _ w15).alloc (Nat.le_refl _) (rtO ((E : Int)) (.slice va (xs).length vc)))
                  have hB := hidden (h15.below ((Below.refl _ w15).alloc (Nat.le_refl _) (rtO ((E : Int)) (.slice va (xs).length vc))))
                  have hd := hidden (s4_of hKs.is_ hKr.is_).drew
                  have hd0 := hidden (s4_of hKs.is_ hKr.is_)
                  have hr2 := hidden hKs.rd
                  have hr1 := hidden hKr.rd
                  clear hKs hKr hb15 hu15 hf15 h15 h14 hK14
                  go_wp2_with fail
                  generalize w15.alloc (rtO ((E : Int)) (.slice va (xs).length vc)) = wB at *
                  generalize w15.heap.size = bs at *
                  have hrn := hidden (fun W : World => reads_new (k := .i64) (w := W) (e := 3) #[.int .i64 1, .int .i64 2, .int .i64 3] l123 3 rfl rfl (by decide))
                  have hM5 := hidden (fun W v (hv : Reads .i64 W v l123) => made_any ((E : Int) + 1) v l123 W hv (by decide))
                  have hS5 := hidden (fun W (hW : Below wB.heap.size wB W) => same_yes ((E : Int)) _ _ (xs) W (hr2.out.below hW (Nat.le_refl _)) (hr1.out.below hW (Nat.le_refl _)) hlE)
                  have hqE : ¬ ((E : Int)) = ((E : Int) + 1) := by omega
                  refine wp_region_held_drew (S := (fun w' => w'.cell? ⟨bs, 0, none⟩ = some (.int .i64 ((E : Int))) ∧ w'.cell? ⟨bs, 1, none⟩ = some (.slice va (xs).length vc) ∧ w'.cell? ⟨br, 0, none⟩ = some (.int .i64 ((E : Int))) ∧ w'.cell? ⟨br, 1, none⟩ = some (.slice ua xs.length uc) ∧ Below wB.heap.size wB w')) (by kernel_rfl) hd.out (fun hHeld => ?_)
                  refine take_plain 0 162 (.nilIface) rfl rfl (by kernel_rfl) (by kernel_rfl) (by kernel_rfl) (fun _ _ _ h => h) (by rfl) ?_ hHeld ?_
                  · intro w hSw
                    try dsimp only at hSw
                    go_simp
                  simp only [Act.put, List.setIfInBounds_toArray, List.set_cons_zero, List.set_cons_succ]
                  refine take_plain 1 163 (.bool false) rfl rfl (by kernel_rfl) (by kernel_rfl) (by kernel_rfl) (fun _ _ _ h => h) (by rfl) ?_ hHeld ?_
                  · intro w hSw
                    try dsimp only at hSw
                    go_simp
                  simp only [Act.put, List.setIfInBounds_toArray, List.set_cons_zero, List.set_cons_succ]
                  refine take_plain 2 164 (.bool false) rfl rfl (by kernel_rfl) (by kernel_rfl) (by kernel_rfl) (fun _ _ _ h => h) (by rfl) ?_ hHeld ?_
                  · intro w hSw
                    try dsimp only at hSw
                    go_simp
                  simp only [Act.put, List.setIfInBounds_toArray, List.set_cons_zero, List.set_cons_succ]
                  refine take_plain 3 165 (.bool true) rfl rfl (by kernel_rfl) (by kernel_rfl) (by kernel_rfl) (fun _ _ _ h => h) (by rfl) ?_ hHeld ?_
                  · intro w hSw
                    try dsimp only at hSw
                    go_simp
                  simp only [Act.put, List.setIfInBounds_toArray, List.set_cons_zero, List.set_cons_succ]
                  refine take_plain 4 166 (.bool true) rfl rfl (by kernel_rfl) (by kernel_rfl) (by kernel_rfl) (fun _ _ _ h => h) (by rfl) ?_ hHeld ?_
                  · intro w hSw
                    try dsimp only at hSw
                    go_simp
                  simp only [Act.put, List.setIfInBounds_toArray, List.set_cons_zero, List.set_cons_succ]
                  refine take_plain 5 167 (.bool true) rfl rfl (by kernel_rfl) (by kernel_rfl) (by kernel_rfl) (fun _ _ _ h => h) (by rfl) ?_ hHeld ?_
                  · intro w hSw
                    try dsimp only at hSw
                    go_simp
                  simp only [Act.put, List.setIfInBounds_toArray, List.set_cons_zero, List.set_cons_succ]
                  refine take_struck 6 168 rfl rfl (by kernel_rfl) (by kernel_rfl) (by kernel_rfl) (fun _ _ _ h => h) (by rfl) hHeld ?_
                  simp only [Act.put, List.setIfInBounds_toArray, List.set_cons_zero, List.set_cons_succ]
                  refine take_struck 7 169 rfl rfl (by kernel_rfl) (by kernel_rfl) (by kernel_rfl) (fun _ _ _ h => h) (by rfl) hHeld ?_
                  simp only [Act.put, List.setIfInBounds_toArray, List.set_cons_zero, List.set_cons_succ]
                  refine take_struck 8 170 rfl rfl (by kernel_rfl) (by kernel_rfl) (by kernel_rfl) (fun _ _ _ h => h) (by rfl) hHeld ?_
                  simp only [Act.put, List.setIfInBounds_toArray, List.set_cons_zero, List.set_cons_succ]
                  refine take_struck 9 171 rfl rfl (by kernel_rfl) (by kernel_rfl) (by kernel_rfl) (fun _ _ _ h => h) (by rfl) hHeld ?_
                  simp only [Act.put, List.setIfInBounds_toArray, List.set_cons_zero, List.set_cons_succ]
                  refine take_plain 10 172 (.bool true) rfl rfl (by kernel_rfl) (by kernel_rfl) (by kernel_rfl) (fun _ _ _ h => h) (by rfl) ?_ hHeld ?_
                  · intro w hSw
                    try dsimp only at hSw
                    go_simp
                  simp only [Act.put, List.setIfInBounds_toArray, List.set_cons_zero, List.set_cons_succ]
                  refine take_plain 11 173 (.bool false) rfl rfl (by kernel_rfl) (by kernel_rfl) (by kernel_rfl) (fun _ _ _ h => h) (by rfl) ?_ hHeld ?_
                  · intro w hSw
                    try dsimp only at hSw
                    go_simp
                  simp only [Act.put, List.setIfInBounds_toArray, List.set_cons_zero, List.set_cons_succ]
                  refine take_plain 12 174 (.bool false) rfl rfl (by kernel_rfl) (by kernel_rfl) (by kernel_rfl) (fun _ _ _ h => h) (by rfl) ?_ hHeld ?_
                  · intro w hSw
                    try dsimp only at hSw
                    go_simp
                  simp only [Act.put, List.setIfInBounds_toArray, List.set_cons_zero, List.set_cons_succ]
                  refine take_plain 13 175 (.bool false) rfl rfl (by kernel_rfl) (by kernel_rfl) (by kernel_rfl) (fun _ _ _ h => h) (by rfl) ?_ hHeld ?_
                  · intro w hSw
                    try dsimp only at hSw
                    go_simp
                  simp only [Act.put, List.setIfInBounds_toArray, List.set_cons_zero, List.set_cons_succ]
                  refine take_plain 14 176 (.bool true) rfl rfl (by kernel_rfl) (by kernel_rfl) (by kernel_rfl) (fun _ _ _ h => h) (by rfl) ?_ hHeld ?_
                  · intro w hSw
                    try dsimp only at hSw
                    go_simp
                  simp only [Act.put, List.setIfInBounds_toArray, List.set_cons_zero, List.set_cons_succ]
                  refine take_plain 15 177 (.bool true) rfl rfl (by kernel_rfl) (by kernel_rfl) (by kernel_rfl) (fun _ _ _ h => h) (by rfl) ?_ hHeld ?_
                  · intro w hSw
                    try dsimp only at hSw
                    go_simp
                  simp only [Act.put, List.setIfInBounds_toArray, List.set_cons_zero, List.set_cons_succ]
                  refine take_plain 16 178 (.pointer (some ⟨bs, 0, none⟩)) rfl rfl (by kernel_rfl) (by kernel_rfl) (by kernel_rfl) (fun _ _ _ h => h) (by rfl) ?_ hHeld ?_
                  · intro w hSw
                    try dsimp only at hSw
                    go_simp
                  simp only [Act.put, List.setIfInBounds_toArray, List.set_cons_zero, List.set_cons_succ]
                  refine take_plain 17 179 (.int .i64 ((E : Int))) rfl rfl (by kernel_rfl) (by kernel_rfl) (by kernel_rfl) (fun _ _ _ h => h) (by rfl) ?_ hHeld ?_
                  · intro w hSw
                    try dsimp only at hSw
                    go_simp
                  simp only [Act.put, List.setIfInBounds_toArray, List.set_cons_zero, List.set_cons_succ]
                  refine take_plain 18 180 (.int .i64 ((E : Int) + 1)) rfl rfl (by kernel_rfl) (by kernel_rfl) (by kernel_rfl) (fun _ _ _ h => h) (by rfl) ?_ hHeld ?_
                  · intro w hSw
                    try dsimp only at hSw
                    go_simp
                  simp only [Act.put, List.setIfInBounds_toArray, List.set_cons_zero, List.set_cons_succ]
                  refine take_plain 19 181 (.bool true) rfl rfl (by kernel_rfl) (by kernel_rfl) (by kernel_rfl) (fun _ _ _ h => h) (by rfl) ?_ hHeld ?_
                  · intro w hSw
                    try dsimp only at hSw
                    go_simp
                  simp only [Act.put, List.setIfInBounds_toArray, List.set_cons_zero, List.set_cons_succ]
                  refine take_plain 20 182 (.bool true) rfl rfl (by kernel_rfl) (by kernel_rfl) (by kernel_rfl) (fun _ _ _ h => h) (by rfl) ?_ hHeld ?_
                  · intro w hSw
                    try dsimp only at hSw
                    go_simp
                  simp only [Act.put, List.setIfInBounds_toArray, List.set_cons_zero, List.set_cons_succ]
                  refine take_plain 21 183 (.bool true) rfl rfl (by kernel_rfl) (by kernel_rfl) (by kernel_rfl) (fun _ _ _ h => h) (by rfl) ?_ hHeld ?_
                  · intro w hSw
                    try dsimp only at hSw
                    go_simp
                  simp only [Act.put, List.setIfInBounds_toArray, List.set_cons_zero, List.set_cons_succ]
                  refine take_plain 22 184 (.agg #[.int .i64 ((E : Int)), .slice va (xs).length vc]) rfl rfl (by kernel_rfl) (by kernel_rfl) (by kernel_rfl) (fun _ _ _ h => h) (by rfl) ?_ hHeld ?_
                  · intro w hSw
                    try dsimp only at hSw
                    go_simp
                  simp only [Act.put, List.setIfInBounds_toArray, List.set_cons_zero, List.set_cons_succ]
                  refine take_plain 23 185 (.agg #[.int .i64 ((E : Int)), .slice ua (xs).length uc]) rfl rfl (by kernel_rfl) (by kernel_rfl) (by kernel_rfl) (fun _ _ _ h => h) (by rfl) ?_ hHeld ?_
                  · intro w hSw
                    try dsimp only at hSw
                    go_simp
                  simp only [Act.put, List.setIfInBounds_toArray, List.set_cons_zero, List.set_cons_succ]
                  refine wpAnyH_ready (rs := [24]) (by kernel_rfl) (by simp) ?_
                  refine AllReadyH.cons rfl (fun K hK => ?_) AllReadyH.nil
                  go_simp
                  go_at_call 14
                  with_reducible refine (hS5.out _ (S4.low hHeld)).mono ?_
                  rintro r wS ⟨rfl, hbS⟩
                  go_wp2_with fail
                  refine hK.out _ _ ?_ (fun hHeld => ?_)
                  · exact S4.next hHeld hbS
                  clear hK K
                  refine take_plain 25 187 (.bool false) rfl rfl (by kernel_rfl) (by kernel_rfl) (by kernel_rfl) (fun _ _ _ h => h) (by rfl) ?_ hHeld ?_
                  · intro w hSw
                    try dsimp only at hSw
                    go_simp
                  simp only [Act.put, List.setIfInBounds_toArray, List.set_cons_zero, List.set_cons_succ]
                  refine take_plain 26 188 (.bool false) rfl rfl (by kernel_rfl) (by kernel_rfl) (by kernel_rfl) (fun _ _ _ h => h) (by rfl) ?_ hHeld ?_
                  · intro w hSw
                    try dsimp only at hSw
                    go_simp
                  simp only [Act.put, List.setIfInBounds_toArray, List.set_cons_zero, List.set_cons_succ]
                  refine take_plain 27 189 (.bool false) rfl rfl (by kernel_rfl) (by kernel_rfl) (by kernel_rfl) (fun _ _ _ h => h) (by rfl) ?_ hHeld ?_
                  · intro w hSw
                    try dsimp only at hSw
                    go_simp
                  simp only [Act.put, List.setIfInBounds_toArray, List.set_cons_zero, List.set_cons_succ]
                  refine take_plain 28 190 (.bool false) rfl rfl (by kernel_rfl) (by kernel_rfl) (by kernel_rfl) (fun _ _ _ h => h) (by rfl) ?_ hHeld ?_
                  · intro w hSw
                    try dsimp only at hSw
                    go_simp
                  simp only [Act.put, List.setIfInBounds_toArray, List.set_cons_zero, List.set_cons_succ]
                  refine take_plain 29 191 (.bool true) rfl rfl (by kernel_rfl) (by kernel_rfl) (by kernel_rfl) (fun _ _ _ h => h) (by rfl) ?_ hHeld ?_
                  · intro w hSw
                    try dsimp only at hSw
                    go_simp
                  simp only [Act.put, List.setIfInBounds_toArray, List.set_cons_zero, List.set_cons_succ]
                  refine take_plain 30 192 (.bool true) rfl rfl (by kernel_rfl) (by kernel_rfl) (by kernel_rfl) (fun _ _ _ h => h) (by rfl) ?_ hHeld ?_
                  · intro w hSw
                    try dsimp only at hSw
                    go_simp
                  simp only [Act.put, List.setIfInBounds_toArray, List.set_cons_zero, List.set_cons_succ]
                  refine take_plain 31 193 (.pointer (some ⟨bs, 0, none⟩)) rfl rfl (by kernel_rfl) (by kernel_rfl) (by kernel_rfl) (fun _ _ _ h => h) (by rfl) ?_ hHeld ?_
                  · intro w hSw
                    try dsimp only at hSw
                    go_simp
                  simp only [Act.put, List.setIfInBounds_toArray, List.set_cons_zero, List.set_cons_succ]
                  refine take_plain 32 194 (.int .i64 ((E : Int))) rfl rfl (by kernel_rfl) (by kernel_rfl) (by kernel_rfl) (fun _ _ _ h => h) (by rfl) ?_ hHeld ?_
                  · intro w hSw
                    try dsimp only at hSw
                    go_simp
                  simp only [Act.put, List.setIfInBounds_toArray, List.set_cons_zero, List.set_cons_succ]
                  refine take_plain 33 195 (.int .i64 ((E : Int) + 1)) rfl rfl (by kernel_rfl) (by kernel_rfl) (by kernel_rfl) (fun _ _ _ h => h) (by rfl) ?_ hHeld ?_
                  · intro w hSw
                    try dsimp only at hSw
                    go_simp
                  simp only [Act.put, List.setIfInBounds_toArray, List.set_cons_zero, List.set_cons_succ]
                  refine take_plain 34 196 (.bool false) rfl rfl (by kernel_rfl) (by kernel_rfl) (by kernel_rfl) (fun _ _ _ h => h) (by rfl) ?_ hHeld ?_
                  · intro w hSw
                    try dsimp only at hSw
                    go_simp
                  simp only [Act.put, List.setIfInBounds_toArray, List.set_cons_zero, List.set_cons_succ]
                  refine take_plain 35 197 (.bool false) rfl rfl (by kernel_rfl) (by kernel_rfl) (by kernel_rfl) (fun _ _ _ h => h) (by rfl) ?_ hHeld ?_
                  · intro w hSw
                    try dsimp only at hSw
                    go_simp
                  simp only [Act.put, List.setIfInBounds_toArray, List.set_cons_zero, List.set_cons_succ]
                  refine take_plain 36 198 (.bool false) rfl rfl (by kernel_rfl) (by kernel_rfl) (by kernel_rfl) (fun _ _ _ h => h) (by rfl) ?_ hHeld ?_
                  · intro w hSw
                    try dsimp only at hSw
                    go_simp
                  simp only [Act.put, List.setIfInBounds_toArray, List.set_cons_zero, List.set_cons_succ]
                  refine take_struck 37 199 rfl rfl (by kernel_rfl) (by kernel_rfl) (by kernel_rfl) (fun _ _ _ h => h) (by rfl) hHeld ?_
                  simp only [Act.put, List.setIfInBounds_toArray, List.set_cons_zero, List.set_cons_succ]
                  refine take_struck 38 200 rfl rfl (by kernel_rfl) (by kernel_rfl) (by kernel_rfl) (fun _ _ _ h => h) (by rfl) hHeld ?_
                  simp only [Act.put, List.setIfInBounds_toArray, List.set_cons_zero, List.set_cons_succ]
                  refine take_struck 39 201 rfl rfl (by kernel_rfl) (by kernel_rfl) (by kernel_rfl) (fun _ _ _ h => h) (by rfl) hHeld ?_
                  simp only [Act.put, List.setIfInBounds_toArray, List.set_cons_zero, List.set_cons_succ]
                  refine take_struck 40 202 rfl rfl (by kernel_rfl) (by kernel_rfl) (by kernel_rfl) (fun _ _ _ h => h) (by rfl) hHeld ?_
                  simp only [Act.put, List.setIfInBounds_toArray, List.set_cons_zero, List.set_cons_succ]
                  refine take_struck 41 203 rfl rfl (by kernel_rfl) (by kernel_rfl) (by kernel_rfl) (fun _ _ _ h => h) (by rfl) hHeld ?_
                  simp only [Act.put, List.setIfInBounds_toArray, List.set_cons_zero, List.set_cons_succ]
                  refine take_struck 42 204 rfl rfl (by kernel_rfl) (by kernel_rfl) (by kernel_rfl) (fun _ _ _ h => h) (by rfl) hHeld ?_
                  simp only [Act.put, List.setIfInBounds_toArray, List.set_cons_zero, List.set_cons_succ]
                  refine take_plain 43 205 (.bool false) rfl rfl (by kernel_rfl) (by kernel_rfl) (by kernel_rfl) (fun _ _ _ h => h) (by rfl) ?_ hHeld ?_
                  · intro w hSw
                    try dsimp only at hSw
                    go_simp
                  simp only [Act.put, List.setIfInBounds_toArray, List.set_cons_zero, List.set_cons_succ]
                  refine take_plain 44 206 (.bool false) rfl rfl (by kernel_rfl) (by kernel_rfl) (by kernel_rfl) (fun _ _ _ h => h) (by rfl) ?_ hHeld ?_
                  · intro w hSw
                    try dsimp only at hSw
                    go_simp
                  simp only [Act.put, List.setIfInBounds_toArray, List.set_cons_zero, List.set_cons_succ]
                  refine wpAnyH_done (by kernel_rfl) ?_ _
                  have hh := S4.low hHeld
                  have h16 := hidden (hB.out.below hh)
                  have c0 := hHeld.1
                  have hrn4 := hidden (fun W : World => reads_new (k := .i64) (w := W) (e := 3) #[.int .i64 4] [4] 1 rfl rfl (by decide))
                  clear hh hHeld
                  go_wp2_with fail
                  refine (made_any _ _ [4] _ (hrn4.out _) (by decide)).mono ?_
                  rintro r w17 ⟨v17, rfl, hv17, _, hb17⟩
                  have h17 := hidden ((h16.out.below ((Below.refl _ _).alloc (Nat.le_refl _) _)).below hb17)
                  clear hb17
                  go_wp2_with fail
                  refine (lsave h17.out hE.out hcm5.out (by rw [hn5.out]; decide) (by exact ⟨by omega, by omega, by decide, by decide⟩) hv17).mono ?_
                  rintro e w18 ⟨rfl, h18, _⟩
                  have hend := hidden (hlow.out _ h18.low)
                  clear h18 h17 hv17
                  go_wp2_with fail
                  go_ret
                  exact ⟨rfl, hend.out⟩
            · go_wp2_with fail
              refine (lload0 h7.out hE.out hcm.out (by rw [hn2']; decide) hld).mono ?_
              rintro e w8 ⟨rfl, h8, hb8⟩
              have hK := hidden (kept_new (e := 0) (u := .slice none 0 0) (xs := []) h7.out (Reads.nil _ _) (fun b hb => by cases hb) hb8)
              have hA := hidden (h8.below ((Below.refl _ w8).alloc (Nat.le_refl _) (rtO 0 (.slice none 0 0))))
              have c0 := hK.out.is_.c0
              have hkz : ¬ (0 : Int) < (k : Int) := by omega
              have hlE : True := trivial
              clear hb8 h8 h7 hfell
              go_upto_region 24 with fail
              generalize w8.alloc (rtO 0 (.slice none 0 0)) = wA at *
              generalize w8.heap.size = br at *
              go_wp2_with fail
              refine (hI.out wA (hlow.out _ hA.out.low)).mono ?_
              rintro r w9 ⟨rfl, hb9⟩
              have hA2 := hidden (hA.out.below hb9)
              have hK2 := hidden (hK.out.below hb9)
              have hd := hidden hK2.out.s2.drew
              clear hb9 hA hK c0
              have c0 := hK2.out.is_.c0
              go_wp2_with fail
              refine wp_region_held_drew (S := (fun w' => w'.cell? ⟨br, 0, none⟩ = some (.int .i64 0) ∧ w'.cell? ⟨br, 1, none⟩ = some (.slice none 0 0) ∧ Below w9.heap.size w9 w')) (by kernel_rfl) hd.out (fun hHeld => ?_)
              refine take_plain 0 130 (.bool false) rfl rfl (by kernel_rfl) (by kernel_rfl) (by kernel_rfl) (fun _ _ _ h => h) (by rfl) ?_ hHeld ?_
              · intro w hSw
                try dsimp only at hSw
                go_simp
              simp only [Act.put, List.setIfInBounds_toArray, List.set_cons_zero, List.set_cons_succ]
              refine take_plain 1 131 (.bool false) rfl rfl (by kernel_rfl) (by kernel_rfl) (by kernel_rfl) (fun _ _ _ h => h) (by rfl) ?_ hHeld ?_
              · intro w hSw
                try dsimp only at hSw
                go_simp
              simp only [Act.put, List.setIfInBounds_toArray, List.set_cons_zero, List.set_cons_succ]
              refine take_struck 2 132 rfl rfl (by kernel_rfl) (by kernel_rfl) (by kernel_rfl) (fun _ _ _ h => h) (by rfl) hHeld ?_
              simp only [Act.put, List.setIfInBounds_toArray, List.set_cons_zero, List.set_cons_succ]
              refine take_struck 3 133 rfl rfl (by kernel_rfl) (by kernel_rfl) (by kernel_rfl) (fun _ _ _ h => h) (by rfl) hHeld ?_
              simp only [Act.put, List.setIfInBounds_toArray, List.set_cons_zero, List.set_cons_succ]
              refine take_struck 4 134 rfl rfl (by kernel_rfl) (by kernel_rfl) (by kernel_rfl) (fun _ _ _ h => h) (by rfl) hHeld ?_
              simp only [Act.put, List.setIfInBounds_toArray, List.set_cons_zero, List.set_cons_succ]
              refine take_struck 5 135 rfl rfl (by kernel_rfl) (by kernel_rfl) (by kernel_rfl) (fun _ _ _ h => h) (by rfl) hHeld ?_
              simp only [Act.put, List.setIfInBounds_toArray, List.set_cons_zero, List.set_cons_succ]
              refine take_struck 6 136 rfl rfl (by kernel_rfl) (by kernel_rfl) (by kernel_rfl) (fun _ _ _ h => h) (by rfl) hHeld ?_
              simp only [Act.put, List.setIfInBounds_toArray, List.set_cons_zero, List.set_cons_succ]
              refine take_struck 7 137 rfl rfl (by kernel_rfl) (by kernel_rfl) (by kernel_rfl) (fun _ _ _ h => h) (by rfl) hHeld ?_
              simp only [Act.put, List.setIfInBounds_toArray, List.set_cons_zero, List.set_cons_succ]
              refine take_struck 8 138 rfl rfl (by kernel_rfl) (by kernel_rfl) (by kernel_rfl) (fun _ _ _ h => h) (by rfl) hHeld ?_
              simp only [Act.put, List.setIfInBounds_toArray, List.set_cons_zero, List.set_cons_succ]
              refine take_struck 9 139 rfl rfl (by kernel_rfl) (by kernel_rfl) (by kernel_rfl) (fun _ _ _ h => h) (by rfl) hHeld ?_
              simp only [Act.put, List.setIfInBounds_toArray, List.set_cons_zero, List.set_cons_succ]
              refine take_struck 10 140 rfl rfl (by kernel_rfl) (by kernel_rfl) (by kernel_rfl) (fun _ _ _ h => h) (by rfl) hHeld ?_
              simp only [Act.put, List.setIfInBounds_toArray, List.set_cons_zero, List.set_cons_succ]
              refine take_struck 11 141 rfl rfl (by kernel_rfl) (by kernel_rfl) (by kernel_rfl) (fun _ _ _ h => h) (by rfl) hHeld ?_
              simp only [Act.put, List.setIfInBounds_toArray, List.set_cons_zero, List.set_cons_succ]
              refine take_plain 12 142 (.bool false) rfl rfl (by kernel_rfl) (by kernel_rfl) (by kernel_rfl) (fun _ _ _ h => h) (by rfl) ?_ hHeld ?_
              · intro w hSw
                try dsimp only at hSw
                go_simp
              simp only [Act.put, List.setIfInBounds_toArray, List.set_cons_zero, List.set_cons_succ]
              refine wpAnyH_done (by kernel_rfl) ?_ _
              have hh := S2.low hHeld
              have hA3 := hidden (hA2.out.below hh)
              have hK3 := hidden (hK2.out.below hh)
              clear hh hA2 hK2 hd c0 hHeld
              have c0 := hK3.out.is_.c0
              go_wp2_with fail
              refine (larm6 hA3.out 2 (by decide) (by decide)).mono ?_
              rintro e w10 ⟨rfl, h10, ht10⟩
              have hK10 := hidden (hK3.out.trd ht10)
              replace h10 := hidden h10
              have hrn3 := hidden (fun W : World => reads_new (k := .i64) (w := W) (e := 3) #[.int .i64 1, .int .i64 2, .int .i64 3] l123 3 rfl rfl (by decide))
              clear ht10 hK3 hA3 c0
              go_wp2_with fail
              refine (made_any _ _ l123 _ (hrn3.out _) (by decide)).mono ?_
              rintro r w12 ⟨v12, rfl, hv12, _, hb12⟩
              have h12 := hidden ((h10.out.below ((Below.refl _ _).alloc (Nat.le_refl _) _)).below hb12)
              have hK12 := hidden ((hK10.out.below ((Below.refl _ _).alloc (Nat.le_refl _) _)).below hb12)
              clear hb12 h10 hK10
              go_wp2_with fail
              refine (lsaveAny h12.out hE.out (1) l123 hv12).mono ?_
              rintro e w13 ⟨rfl, h13, ht13⟩
              have hK13 := hidden (hK12.out.trd ht13)
              replace h13 := hidden h13
              clear ht13 hK12 h12 hv12
              go_wp2_with fail
              refine (lcrashIn h13.out (hpd.out w1 hw1.out) hpk.out).mono ?_
              rintro e w14 ⟨rfl, h14, ht14⟩
              have hK14 := hidden (hK13.out.trd ht14)
              replace h14 := hidden h14
              have hcm5 := hidden (calm_crash (svD (D2.arm 2) (1) l123) picks)
              have hn5 := hidden (show ((svD (D2.arm 2) (1) l123).crash picks).n = 6 from (svD_n (D2.arm 2) (1) l123).trans hn2')
              clear ht14 hK13 h13
              generalize (svD (D2.arm 2) (1) l123).crash picks = D5 at *
              rcases hag with hld5 | hld5
              · go_wp2_with fail
                refine (lload1 h14.out hE.out hcm5.out (by rw [hn5.out]; decide) hld5).mono ?_
                rintro e w15 ⟨u15, rfl, h15, hu15, hf15, hb15⟩
                obtain ⟨va, vc, rfl⟩ := reads_slice hu15
                have hKs := kept_new (e := 1) h14.out hu15 hf15 hb15
                have hKr := (hK14.out.below hb15).below ((Below.refl _ w15).alloc (Nat.le_refl _) (rtO (1) (.slice va (l123).length vc)))
                have hB := hidden (h15.below ((Below.refl _ w15).alloc (Nat.le_refl _) (rtO (1) (.slice va (l123).length vc))))
                have hd := hidden (s4_of hKs.is_ hKr.is_).drew
                have hd0 := hidden (s4_of hKs.is_ hKr.is_)
                have hr2 := hidden hKs.rd
                have hr1 := hidden hKr.rd
                clear hKs hKr hb15 hu15 hf15 h15 h14 hK14
                go_wp2_with fail
                generalize w15.alloc (rtO (1) (.slice va (l123).length vc)) = wB at *
                generalize w15.heap.size = bs at *
                have hrn := hidden (fun W : World => reads_new (k := .i64) (w := W) (e := 3) #[.int .i64 1, .int .i64 2, .int .i64 3] l123 3 rfl rfl (by decide))
                have hM5 := hidden (fun W v (hv : Reads .i64 W v l123) => made_any (1) v l123 W hv (by decide))
                have hS5 := hidden (fun W v (hW : Below wB.heap.size wB W) hv => same_yes (1) _ v l123 W (hr2.out.below hW (Nat.le_refl _)) hv (by decide))
                refine wp_region_held_drew (S := (fun w' => w'.cell? ⟨bs, 0, none⟩ = some (.int .i64 (1)) ∧ w'.cell? ⟨bs, 1, none⟩ = some (.slice va (l123).length vc) ∧ w'.cell? ⟨br, 0, none⟩ = some (.int .i64 (0)) ∧ w'.cell? ⟨br, 1, none⟩ = some (.slice none 0 0) ∧ Below wB.heap.size wB w')) (by kernel_rfl) hd.out (fun hHeld => ?_)
                refine take_plain 0 162 (.nilIface) rfl rfl (by kernel_rfl) (by kernel_rfl) (by kernel_rfl) (fun _ _ _ h => h) (by rfl) ?_ hHeld ?_
                · intro w hSw
                  try dsimp only at hSw
                  go_simp
                simp only [Act.put, List.setIfInBounds_toArray, List.set_cons_zero, List.set_cons_succ]
                refine take_plain 1 163 (.bool false) rfl rfl (by kernel_rfl) (by kernel_rfl) (by kernel_rfl) (fun _ _ _ h => h) (by rfl) ?_ hHeld ?_
                · intro w hSw
                  try dsimp only at hSw
                  go_simp
                simp only [Act.put, List.setIfInBounds_toArray, List.set_cons_zero, List.set_cons_succ]
                refine take_plain 2 164 (.bool false) rfl rfl (by kernel_rfl) (by kernel_rfl) (by kernel_rfl) (fun _ _ _ h => h) (by rfl) ?_ hHeld ?_
                · intro w hSw
                  try dsimp only at hSw
                  go_simp
                simp only [Act.put, List.setIfInBounds_toArray, List.set_cons_zero, List.set_cons_succ]
                refine take_plain 3 165 (.bool true) rfl rfl (by kernel_rfl) (by kernel_rfl) (by kernel_rfl) (fun _ _ _ h => h) (by rfl) ?_ hHeld ?_
                · intro w hSw
                  try dsimp only at hSw
                  go_simp
                simp only [Act.put, List.setIfInBounds_toArray, List.set_cons_zero, List.set_cons_succ]
                refine take_plain 4 166 (.bool false) rfl rfl (by kernel_rfl) (by kernel_rfl) (by kernel_rfl) (fun _ _ _ h => h) (by rfl) ?_ hHeld ?_
                · intro w hSw
                  try dsimp only at hSw
                  go_simp
                simp only [Act.put, List.setIfInBounds_toArray, List.set_cons_zero, List.set_cons_succ]
                refine take_plain 5 167 (.bool false) rfl rfl (by kernel_rfl) (by kernel_rfl) (by kernel_rfl) (fun _ _ _ h => h) (by rfl) ?_ hHeld ?_
                · intro w hSw
                  try dsimp only at hSw
                  go_simp
                simp only [Act.put, List.setIfInBounds_toArray, List.set_cons_zero, List.set_cons_succ]
                refine take_plain 6 168 (.pointer (some ⟨bs, 0, none⟩)) rfl rfl (by kernel_rfl) (by kernel_rfl) (by kernel_rfl) (fun _ _ _ h => h) (by rfl) ?_ hHeld ?_
                · intro w hSw
                  try dsimp only at hSw
                  go_simp
                simp only [Act.put, List.setIfInBounds_toArray, List.set_cons_zero, List.set_cons_succ]
                refine take_plain 7 169 (.int .i64 (1)) rfl rfl (by kernel_rfl) (by kernel_rfl) (by kernel_rfl) (fun _ _ _ h => h) (by rfl) ?_ hHeld ?_
                · intro w hSw
                  try dsimp only at hSw
                  go_simp
                simp only [Act.put, List.setIfInBounds_toArray, List.set_cons_zero, List.set_cons_succ]
                refine take_plain 8 170 (.int .i64 (1)) rfl rfl (by kernel_rfl) (by kernel_rfl) (by kernel_rfl) (fun _ _ _ h => h) (by rfl) ?_ hHeld ?_
                · intro w hSw
                  try dsimp only at hSw
                  go_simp
                simp only [Act.put, List.setIfInBounds_toArray, List.set_cons_zero, List.set_cons_succ]
                refine take_plain 9 171 (.bool true) rfl rfl (by kernel_rfl) (by kernel_rfl) (by kernel_rfl) (fun _ _ _ h => h) (by rfl) ?_ hHeld ?_
                · intro w hSw
                  try dsimp only at hSw
                  go_simp
                simp only [Act.put, List.setIfInBounds_toArray, List.set_cons_zero, List.set_cons_succ]
                refine take_plain 10 172 (.bool true) rfl rfl (by kernel_rfl) (by kernel_rfl) (by kernel_rfl) (fun _ _ _ h => h) (by rfl) ?_ hHeld ?_
                · intro w hSw
                  try dsimp only at hSw
                  go_simp
                simp only [Act.put, List.setIfInBounds_toArray, List.set_cons_zero, List.set_cons_succ]
                refine take_plain 11 173 (.bool false) rfl rfl (by kernel_rfl) (by kernel_rfl) (by kernel_rfl) (fun _ _ _ h => h) (by rfl) ?_ hHeld ?_
                · intro w hSw
                  try dsimp only at hSw
                  go_simp
                simp only [Act.put, List.setIfInBounds_toArray, List.set_cons_zero, List.set_cons_succ]
                refine take_plain 12 174 (.bool false) rfl rfl (by kernel_rfl) (by kernel_rfl) (by kernel_rfl) (fun _ _ _ h => h) (by rfl) ?_ hHeld ?_
                · intro w hSw
                  try dsimp only at hSw
                  go_simp
                simp only [Act.put, List.setIfInBounds_toArray, List.set_cons_zero, List.set_cons_succ]
                refine take_plain 13 175 (.bool false) rfl rfl (by kernel_rfl) (by kernel_rfl) (by kernel_rfl) (fun _ _ _ h => h) (by rfl) ?_ hHeld ?_
                · intro w hSw
                  try dsimp only at hSw
                  go_simp
                simp only [Act.put, List.setIfInBounds_toArray, List.set_cons_zero, List.set_cons_succ]
                refine take_plain 14 176 (.bool true) rfl rfl (by kernel_rfl) (by kernel_rfl) (by kernel_rfl) (fun _ _ _ h => h) (by rfl) ?_ hHeld ?_
                · intro w hSw
                  try dsimp only at hSw
                  go_simp
                simp only [Act.put, List.setIfInBounds_toArray, List.set_cons_zero, List.set_cons_succ]
                refine take_plain 15 177 (.bool true) rfl rfl (by kernel_rfl) (by kernel_rfl) (by kernel_rfl) (fun _ _ _ h => h) (by rfl) ?_ hHeld ?_
                · intro w hSw
                  try dsimp only at hSw
                  go_simp
                simp only [Act.put, List.setIfInBounds_toArray, List.set_cons_zero, List.set_cons_succ]
                refine take_plain 16 178 (.pointer (some ⟨bs, 0, none⟩)) rfl rfl (by kernel_rfl) (by kernel_rfl) (by kernel_rfl) (fun _ _ _ h => h) (by rfl) ?_ hHeld ?_
                · intro w hSw
                  try dsimp only at hSw
                  go_simp
                simp only [Act.put, List.setIfInBounds_toArray, List.set_cons_zero, List.set_cons_succ]
                refine take_plain 17 179 (.int .i64 (1)) rfl rfl (by kernel_rfl) (by kernel_rfl) (by kernel_rfl) (fun _ _ _ h => h) (by rfl) ?_ hHeld ?_
                · intro w hSw
                  try dsimp only at hSw
                  go_simp
                simp only [Act.put, List.setIfInBounds_toArray, List.set_cons_zero, List.set_cons_succ]
                refine take_plain 18 180 (.int .i64 (1)) rfl rfl (by kernel_rfl) (by kernel_rfl) (by kernel_rfl) (fun _ _ _ h => h) (by rfl) ?_ hHeld ?_
                · intro w hSw
                  try dsimp only at hSw
                  go_simp
                simp only [Act.put, List.setIfInBounds_toArray, List.set_cons_zero, List.set_cons_succ]
                refine take_plain 19 181 (.bool false) rfl rfl (by kernel_rfl) (by kernel_rfl) (by kernel_rfl) (fun _ _ _ h => h) (by rfl) ?_ hHeld ?_
                · intro w hSw
                  try dsimp only at hSw
                  go_simp
                simp only [Act.put, List.setIfInBounds_toArray, List.set_cons_zero, List.set_cons_succ]
                refine take_plain 20 182 (.bool false) rfl rfl (by kernel_rfl) (by kernel_rfl) (by kernel_rfl) (fun _ _ _ h => h) (by rfl) ?_ hHeld ?_
                · intro w hSw
                  try dsimp only at hSw
                  go_simp
                simp only [Act.put, List.setIfInBounds_toArray, List.set_cons_zero, List.set_cons_succ]
                refine take_plain 21 183 (.bool false) rfl rfl (by kernel_rfl) (by kernel_rfl) (by kernel_rfl) (fun _ _ _ h => h) (by rfl) ?_ hHeld ?_
                · intro w hSw
                  try dsimp only at hSw
                  go_simp
                simp only [Act.put, List.setIfInBounds_toArray, List.set_cons_zero, List.set_cons_succ]
                refine take_struck 22 184 rfl rfl (by kernel_rfl) (by kernel_rfl) (by kernel_rfl) (fun _ _ _ h => h) (by rfl) hHeld ?_
                simp only [Act.put, List.setIfInBounds_toArray, List.set_cons_zero, List.set_cons_succ]
                refine take_struck 23 185 rfl rfl (by kernel_rfl) (by kernel_rfl) (by kernel_rfl) (fun _ _ _ h => h) (by rfl) hHeld ?_
                simp only [Act.put, List.setIfInBounds_toArray, List.set_cons_zero, List.set_cons_succ]
                refine take_struck 24 186 rfl rfl (by kernel_rfl) (by kernel_rfl) (by kernel_rfl) (fun _ _ _ h => h) (by rfl) hHeld ?_
                simp only [Act.put, List.setIfInBounds_toArray, List.set_cons_zero, List.set_cons_succ]
                refine take_struck 25 187 rfl rfl (by kernel_rfl) (by kernel_rfl) (by kernel_rfl) (fun _ _ _ h => h) (by rfl) hHeld ?_
                simp only [Act.put, List.setIfInBounds_toArray, List.set_cons_zero, List.set_cons_succ]
                refine take_plain 26 188 (.bool false) rfl rfl (by kernel_rfl) (by kernel_rfl) (by kernel_rfl) (fun _ _ _ h => h) (by rfl) ?_ hHeld ?_
                · intro w hSw
                  try dsimp only at hSw
                  go_simp
                simp only [Act.put, List.setIfInBounds_toArray, List.set_cons_zero, List.set_cons_succ]
                refine take_plain 27 189 (.bool false) rfl rfl (by kernel_rfl) (by kernel_rfl) (by kernel_rfl) (fun _ _ _ h => h) (by rfl) ?_ hHeld ?_
                · intro w hSw
                  try dsimp only at hSw
                  go_simp
                simp only [Act.put, List.setIfInBounds_toArray, List.set_cons_zero, List.set_cons_succ]
                refine take_plain 28 190 (.bool false) rfl rfl (by kernel_rfl) (by kernel_rfl) (by kernel_rfl) (fun _ _ _ h => h) (by rfl) ?_ hHeld ?_
                · intro w hSw
                  try dsimp only at hSw
                  go_simp
                simp only [Act.put, List.setIfInBounds_toArray, List.set_cons_zero, List.set_cons_succ]
                refine take_plain 29 191 (.bool true) rfl rfl (by kernel_rfl) (by kernel_rfl) (by kernel_rfl) (fun _ _ _ h => h) (by rfl) ?_ hHeld ?_
                · intro w hSw
                  try dsimp only at hSw
                  go_simp
                simp only [Act.put, List.setIfInBounds_toArray, List.set_cons_zero, List.set_cons_succ]
                refine take_plain 30 192 (.bool true) rfl rfl (by kernel_rfl) (by kernel_rfl) (by kernel_rfl) (fun _ _ _ h => h) (by rfl) ?_ hHeld ?_
                · intro w hSw
                  try dsimp only at hSw
                  go_simp
                simp only [Act.put, List.setIfInBounds_toArray, List.set_cons_zero, List.set_cons_succ]
                refine take_plain 31 193 (.pointer (some ⟨bs, 0, none⟩)) rfl rfl (by kernel_rfl) (by kernel_rfl) (by kernel_rfl) (fun _ _ _ h => h) (by rfl) ?_ hHeld ?_
                · intro w hSw
                  try dsimp only at hSw
                  go_simp
                simp only [Act.put, List.setIfInBounds_toArray, List.set_cons_zero, List.set_cons_succ]
                refine take_plain 32 194 (.int .i64 (1)) rfl rfl (by kernel_rfl) (by kernel_rfl) (by kernel_rfl) (fun _ _ _ h => h) (by rfl) ?_ hHeld ?_
                · intro w hSw
                  try dsimp only at hSw
                  go_simp
                simp only [Act.put, List.setIfInBounds_toArray, List.set_cons_zero, List.set_cons_succ]
                refine take_plain 33 195 (.int .i64 (1)) rfl rfl (by kernel_rfl) (by kernel_rfl) (by kernel_rfl) (fun _ _ _ h => h) (by rfl) ?_ hHeld ?_
                · intro w hSw
                  try dsimp only at hSw
                  go_simp
                simp only [Act.put, List.setIfInBounds_toArray, List.set_cons_zero, List.set_cons_succ]
                refine take_plain 34 196 (.bool true) rfl rfl (by kernel_rfl) (by kernel_rfl) (by kernel_rfl) (fun _ _ _ h => h) (by rfl) ?_ hHeld ?_
                · intro w hSw
                  try dsimp only at hSw
                  go_simp
                simp only [Act.put, List.setIfInBounds_toArray, List.set_cons_zero, List.set_cons_succ]
                refine take_plain 35 197 (.bool true) rfl rfl (by kernel_rfl) (by kernel_rfl) (by kernel_rfl) (fun _ _ _ h => h) (by rfl) ?_ hHeld ?_
                · intro w hSw
                  try dsimp only at hSw
                  go_simp
                simp only [Act.put, List.setIfInBounds_toArray, List.set_cons_zero, List.set_cons_succ]
                refine take_plain 36 198 (.bool true) rfl rfl (by kernel_rfl) (by kernel_rfl) (by kernel_rfl) (fun _ _ _ h => h) (by rfl) ?_ hHeld ?_
                · intro w hSw
                  try dsimp only at hSw
                  go_simp
                simp only [Act.put, List.setIfInBounds_toArray, List.set_cons_zero, List.set_cons_succ]
                refine take_plain 37 199 (.agg #[.int .i64 (1), .slice va (l123).length vc]) rfl rfl (by kernel_rfl) (by kernel_rfl) (by kernel_rfl) (fun _ _ _ h => h) (by rfl) ?_ hHeld ?_
                · intro w hSw
                  try dsimp only at hSw
                  go_simp
                simp only [Act.put, List.setIfInBounds_toArray, List.set_cons_zero, List.set_cons_succ]
                refine take_plain 38 200 (.int .i64 (1)) rfl rfl (by kernel_rfl) (by kernel_rfl) (by kernel_rfl) (fun _ _ _ h => h) (by rfl) ?_ hHeld ?_
                · intro w hSw
                  try dsimp only at hSw
                  go_simp
                simp only [Act.put, List.setIfInBounds_toArray, List.set_cons_zero, List.set_cons_succ]
                refine wpAnyH_ready (rs := [39]) (by kernel_rfl) (by simp) ?_
                refine AllReadyH.cons rfl (fun K hK => ?_) AllReadyH.nil
                go_simp
                refine hK.out _ _ ?_ (fun hHeld => ?_)
                · first | exact (S4.alloc hHeld _) | exact S4.drew (S4.alloc hHeld _) | exact S4.drew (S4.alloc hd0.out _) | exact S4.alloc hd.out _
                clear hK K
                refine wpAnyH_ready (rs := [40]) (by kernel_rfl) (by simp) ?_
                refine AllReadyH.cons rfl (fun K hK => ?_) AllReadyH.nil
                go_simp
                go_at_call 9
                refine (hM5.out _ _ (by first | exact hrn.out _ | exact (hrn.out _).same (fun _ _ => rfl))).mono ?_
                rintro r wM ⟨uM, rfl, huM, hfM, hbM⟩
                go_wp2_with fail
                refine hK.out _ _ ?_ (fun hHeld => ?_)
                · exact S4.next hHeld hbM
                clear hK K
                refine wpAnyH_ready (rs := [41]) (by kernel_rfl) (by simp) ?_
                refine AllReadyH.cons rfl (fun K hK => ?_) AllReadyH.nil
                go_simp
                go_at_call 14
                with_reducible refine (hS5.out _ _ (S4.low hHeld) huM).mono ?_
                rintro r wS ⟨rfl, hbS⟩
                go_wp2_with fail
                refine hK.out _ _ ?_ (fun hHeld => ?_)
                · exact S4.next hHeld hbS
                clear hK K
                refine take_plain 42 204 (.bool false) rfl rfl (by kernel_rfl) (by kernel_rfl) (by kernel_rfl) (fun _ _ _ h => h) (by rfl) ?_ hHeld ?_
                · intro w hSw
                  try dsimp only at hSw
                  go_simp
                simp only [Act.put, List.setIfInBounds_toArray, List.set_cons_zero, List.set_cons_succ]
                refine take_plain 43 205 (.bool false) rfl rfl (by kernel_rfl) (by kernel_rfl) (by kernel_rfl) (fun _ _ _ h => h) (by rfl) ?_ hHeld ?_
                · intro w hSw
                  try dsimp only at hSw
                  go_simp
                simp only [Act.put, List.setIfInBounds_toArray, List.set_cons_zero, List.set_cons_succ]
                refine take_plain 44 206 (.bool false) rfl rfl (by kernel_rfl) (by kernel_rfl) (by kernel_rfl) (fun _ _ _ h => h) (by rfl) ?_ hHeld ?_
                · intro w hSw
                  try dsimp only at hSw
                  go_simp
                simp only [Act.put, List.setIfInBounds_toArray, List.set_cons_zero, List.set_cons_succ]
                refine wpAnyH_done (by kernel_rfl) ?_ _
                have hh := S4.low hHeld
                have h16 := hidden (hB.out.below hh)
                have c0 := hHeld.1
                have hrn4 := hidden (fun W : World => reads_new (k := .i64) (w := W) (e := 3) #[.int .i64 4] [4] 1 rfl rfl (by decide))
                clear hh hHeld
                go_wp2_with fail
                refine (made_any _ _ [4] _ (hrn4.out _) (by decide)).mono ?_
                rintro r w17 ⟨v17, rfl, hv17, _, hb17⟩
                have h17 := hidden ((h16.out.below ((Below.refl _ _).alloc (Nat.le_refl _) _)).below hb17)
                clear hb17
                go_wp2_with fail
                refine (lsave h17.out hE.out hcm5.out (by rw [hn5.out]; decide) (by exact ⟨by omega, by omega, by decide, by decide⟩) hv17).mono ?_
                rintro e w18 ⟨rfl, h18, _⟩
                have hend := hidden (hlow.out _ h18.low)
                clear h18 h17 hv17
                go_wp2_with fail
                go_ret
                exact ⟨rfl, hend.out⟩
              · go_wp2_with fail
                refine (lload0 h14.out hE.out hcm5.out (by rw [hn5.out]; decide) hld5).mono ?_
                rintro e w15 ⟨rfl, h15, hb15⟩
                have hKs := kept_new (e := 0) (u := .slice none 0 0) (xs := []) h14.out (Reads.nil _ _) (fun b hb => by cases hb) hb15
                have hKr := (hK14.out.below hb15).below ((Below.refl _ w15).alloc (Nat.le_refl _) (rtO 0 (.slice none 0 0)))
                have hB := hidden (h15.below ((Below.refl _ w15).alloc (Nat.le_refl _) (rtO 0 (.slice none 0 0))))
                have hu15 := hidden True.intro
                have hf15 := hidden True.intro
                have hd := hidden (s4_of hKs.is_ hKr.is_).drew
                have hd0 := hidden (s4_of hKs.is_ hKr.is_)
                have hr2 := hidden hKs.rd
                have hr1 := hidden hKr.rd
                clear hKs hKr hb15 hu15 hf15 h15 h14 hK14
                go_wp2_with fail
                generalize w15.alloc (rtO (0) (.slice none 0 0)) = wB at *
                generalize w15.heap.size = bs at *
                have hrn := hidden (fun W : World => reads_new (k := .i64) (w := W) (e := 3) #[.int .i64 1, .int .i64 2, .int .i64 3] l123 3 rfl rfl (by decide))
                have hM5 := hidden (fun W v (hv : Reads .i64 W v l123) => made_any (1) v l123 W hv (by decide))
                refine wp_region_held_drew (S := (fun w' => w'.cell? ⟨bs, 0, none⟩ = some (.int .i64 (0)) ∧ w'.cell? ⟨bs, 1, none⟩ = some (.slice none 0 0) ∧ w'.cell? ⟨br, 0, none⟩ = some (.int .i64 (0)) ∧ w'.cell? ⟨br, 1, none⟩ = some (.slice none 0 0) ∧ Below wB.heap.size wB w')) (by kernel_rfl) hd.out (fun hHeld => ?_)
                refine take_plain 0 162 (.nilIface) rfl rfl (by kernel_rfl) (by kernel_rfl) (by kernel_rfl) (fun _ _ _ h => h) (by rfl) ?_ hHeld ?_
                · intro w hSw
                  try dsimp only at hSw
                  go_simp
                simp only [Act.put, List.setIfInBounds_toArray, List.set_cons_zero, List.set_cons_succ]
                refine take_plain 1 163 (.bool false) rfl rfl (by kernel_rfl) (by kernel_rfl) (by kernel_rfl) (fun _ _ _ h => h) (by rfl) ?_ hHeld ?_
                · intro w hSw
                  try dsimp only at hSw
                  go_simp
                simp only [Act.put, List.setIfInBounds_toArray, List.set_cons_zero, List.set_cons_succ]
                refine take_plain 2 164 (.bool false) rfl rfl (by kernel_rfl) (by kernel_rfl) (by kernel_rfl) (fun _ _ _ h => h) (by rfl) ?_ hHeld ?_
                · intro w hSw
                  try dsimp only at hSw
                  go_simp
                simp only [Act.put, List.setIfInBounds_toArray, List.set_cons_zero, List.set_cons_succ]
                refine take_plain 3 165 (.bool false) rfl rfl (by kernel_rfl) (by kernel_rfl) (by kernel_rfl) (fun _ _ _ h => h) (by rfl) ?_ hHeld ?_
                · intro w hSw
                  try dsimp only at hSw
                  go_simp
                simp only [Act.put, List.setIfInBounds_toArray, List.set_cons_zero, List.set_cons_succ]
                refine take_plain 4 166 (.bool false) rfl rfl (by kernel_rfl) (by kernel_rfl) (by kernel_rfl) (fun _ _ _ h => h) (by rfl) ?_ hHeld ?_
                · intro w hSw
                  try dsimp only at hSw
                  go_simp
                simp only [Act.put, List.setIfInBounds_toArray, List.set_cons_zero, List.set_cons_succ]
                refine take_plain 5 167 (.bool false) rfl rfl (by kernel_rfl) (by kernel_rfl) (by kernel_rfl) (fun _ _ _ h => h) (by rfl) ?_ hHeld ?_
                · intro w hSw
                  try dsimp only at hSw
                  go_simp
                simp only [Act.put, List.setIfInBounds_toArray, List.set_cons_zero, List.set_cons_succ]
                refine take_plain 6 168 (.pointer (some ⟨bs, 0, none⟩)) rfl rfl (by kernel_rfl) (by kernel_rfl) (by kernel_rfl) (fun _ _ _ h => h) (by rfl) ?_ hHeld ?_
                · intro w hSw
                  try dsimp only at hSw
                  go_simp
                simp only [Act.put, List.setIfInBounds_toArray, List.set_cons_zero, List.set_cons_succ]
                refine take_plain 7 169 (.int .i64 (0)) rfl rfl (by kernel_rfl) (by kernel_rfl) (by kernel_rfl) (fun _ _ _ h => h) (by rfl) ?_ hHeld ?_
                · intro w hSw
                  try dsimp only at hSw
                  go_simp
                simp only [Act.put, List.setIfInBounds_toArray, List.set_cons_zero, List.set_cons_succ]
                refine take_plain 8 170 (.int .i64 (1)) rfl rfl (by kernel_rfl) (by kernel_rfl) (by kernel_rfl) (fun _ _ _ h => h) (by rfl) ?_ hHeld ?_
                · intro w hSw
                  try dsimp only at hSw
                  go_simp
                simp only [Act.put, List.setIfInBounds_toArray, List.set_cons_zero, List.set_cons_succ]
                refine take_plain 9 171 (.bool false) rfl rfl (by kernel_rfl) (by kernel_rfl) (by kernel_rfl) (fun _ _ _ h => h) (by rfl) ?_ hHeld ?_
                · intro w hSw
                  try dsimp only at hSw
                  go_simp
                simp only [Act.put, List.setIfInBounds_toArray, List.set_cons_zero, List.set_cons_succ]
                refine take_plain 10 172 (.bool false) rfl rfl (by kernel_rfl) (by kernel_rfl) (by kernel_rfl) (fun _ _ _ h => h) (by rfl) ?_ hHeld ?_
                · intro w hSw
                  try dsimp only at hSw
                  go_simp
                simp only [Act.put, List.setIfInBounds_toArray, List.set_cons_zero, List.set_cons_succ]
                refine take_plain 11 173 (.bool false) rfl rfl (by kernel_rfl) (by kernel_rfl) (by kernel_rfl) (fun _ _ _ h => h) (by rfl) ?_ hHeld ?_
                · intro w hSw
                  try dsimp only at hSw
                  go_simp
                simp only [Act.put, List.setIfInBounds_toArray, List.set_cons_zero, List.set_cons_succ]
                refine take_plain 12 174 (.bool false) rfl rfl (by kernel_rfl) (by kernel_rfl) (by kernel_rfl) (fun _ _ _ h => h) (by rfl) ?_ hHeld ?_
                · intro w hSw
                  try dsimp only at hSw
                  go_simp
                simp only [Act.put, List.setIfInBounds_toArray, List.set_cons_zero, List.set_cons_succ]
                refine take_plain 13 175 (.bool false) rfl rfl (by kernel_rfl) (by kernel_rfl) (by kernel_rfl) (fun _ _ _ h => h) (by rfl) ?_ hHeld ?_
                · intro w hSw
                  try dsimp only at hSw
                  go_simp
                simp only [Act.put, List.setIfInBounds_toArray, List.set_cons_zero, List.set_cons_succ]
                refine take_plain 14 176 (.bool false) rfl rfl (by kernel_rfl) (by kernel_rfl) (by kernel_rfl) (fun _ _ _ h => h) (by rfl) ?_ hHeld ?_
                · intro w hSw
                  try dsimp only at hSw
                  go_simp
                simp only [Act.put, List.setIfInBounds_toArray, List.set_cons_zero, List.set_cons_succ]
                refine take_plain 15 177 (.bool false) rfl rfl (by kernel_rfl) (by kernel_rfl) (by kernel_rfl) (fun _ _ _ h => h) (by rfl) ?_ hHeld ?_
                · intro w hSw
                  try dsimp only at hSw
                  go_simp
                simp only [Act.put, List.setIfInBounds_toArray, List.set_cons_zero, List.set_cons_succ]
                refine take_struck 16 178 rfl rfl (by kernel_rfl) (by kernel_rfl) (by kernel_rfl) (fun _ _ _ h => h) (by rfl) hHeld ?_
                simp only [Act.put, List.setIfInBounds_toArray, List.set_cons_zero, List.set_cons_succ]
                refine take_struck 17 179 rfl rfl (by kernel_rfl) (by kernel_rfl) (by kernel_rfl) (fun _ _ _ h => h) (by rfl) hHeld ?_
                simp only [Act.put, List.setIfInBounds_toArray, List.set_cons_zero, List.set_cons_succ]
                refine take_struck 18 180 rfl rfl (by kernel_rfl) (by kernel_rfl) (by kernel_rfl) (fun _ _ _ h => h) (by rfl) hHeld ?_
                simp only [Act.put, List.setIfInBounds_toArray, List.set_cons_zero, List.set_cons_succ]
                refine take_struck 19 181 rfl rfl (by kernel_rfl) (by kernel_rfl) (by kernel_rfl) (fun _ _ _ h => h) (by rfl) hHeld ?_
                simp only [Act.put, List.setIfInBounds_toArray, List.set_cons_zero, List.set_cons_succ]
                refine take_plain 20 182 (.bool false) rfl rfl (by kernel_rfl) (by kernel_rfl) (by kernel_rfl) (fun _ _ _ h => h) (by rfl) ?_ hHeld ?_
                · intro w hSw
                  try dsimp only at hSw
                  go_simp
                simp only [Act.put, List.setIfInBounds_toArray, List.set_cons_zero, List.set_cons_succ]
                refine take_plain 21 183 (.bool false) rfl rfl (by kernel_rfl) (by kernel_rfl) (by kernel_rfl) (fun _ _ _ h => h) (by rfl) ?_ hHeld ?_
                · intro w hSw
                  try dsimp only at hSw
                  go_simp
                simp only [Act.put, List.setIfInBounds_toArray, List.set_cons_zero, List.set_cons_succ]
                refine take_struck 22 184 rfl rfl (by kernel_rfl) (by kernel_rfl) (by kernel_rfl) (fun _ _ _ h => h) (by rfl) hHeld ?_
                simp only [Act.put, List.setIfInBounds_toArray, List.set_cons_zero, List.set_cons_succ]
                refine take_struck 23 185 rfl rfl (by kernel_rfl) (by kernel_rfl) (by kernel_rfl) (fun _ _ _ h => h) (by rfl) hHeld ?_
                simp only [Act.put, List.setIfInBounds_toArray, List.set_cons_zero, List.set_cons_succ]
                refine take_struck 24 186 rfl rfl (by kernel_rfl) (by kernel_rfl) (by kernel_rfl) (fun _ _ _ h => h) (by rfl) hHeld ?_
                simp only [Act.put, List.setIfInBounds_toArray, List.set_cons_zero, List.set_cons_succ]
                refine take_struck 25 187 rfl rfl (by kernel_rfl) (by kernel_rfl) (by kernel_rfl) (fun _ _ _ h => h) (by rfl) hHeld ?_
                simp only [Act.put, List.setIfInBounds_toArray, List.set_cons_zero, List.set_cons_succ]
                refine take_plain 26 188 (.bool false) rfl rfl (by kernel_rfl) (by kernel_rfl) (by kernel_rfl) (fun _ _ _ h => h) (by rfl) ?_ hHeld ?_
                · intro w hSw
                  try dsimp only at hSw
                  go_simp
                simp only [Act.put, List.setIfInBounds_toArray, List.set_cons_zero, List.set_cons_succ]
                refine take_plain 27 189 (.bool false) rfl rfl (by kernel_rfl) (by kernel_rfl) (by kernel_rfl) (fun _ _ _ h => h) (by rfl) ?_ hHeld ?_
                · intro w hSw
                  try dsimp only at hSw
                  go_simp
                simp only [Act.put, List.setIfInBounds_toArray, List.set_cons_zero, List.set_cons_succ]
                refine take_plain 28 190 (.bool false) rfl rfl (by kernel_rfl) (by kernel_rfl) (by kernel_rfl) (fun _ _ _ h => h) (by rfl) ?_ hHeld ?_
                · intro w hSw
                  try dsimp only at hSw
                  go_simp
                simp only [Act.put, List.setIfInBounds_toArray, List.set_cons_zero, List.set_cons_succ]
                refine take_plain 29 191 (.bool false) rfl rfl (by kernel_rfl) (by kernel_rfl) (by kernel_rfl) (fun _ _ _ h => h) (by rfl) ?_ hHeld ?_
                · intro w hSw
                  try dsimp only at hSw
                  go_simp
                simp only [Act.put, List.setIfInBounds_toArray, List.set_cons_zero, List.set_cons_succ]
                refine take_plain 30 192 (.bool false) rfl rfl (by kernel_rfl) (by kernel_rfl) (by kernel_rfl) (fun _ _ _ h => h) (by rfl) ?_ hHeld ?_
                · intro w hSw
                  try dsimp only at hSw
                  go_simp
                simp only [Act.put, List.setIfInBounds_toArray, List.set_cons_zero, List.set_cons_succ]
                refine take_struck 31 193 rfl rfl (by kernel_rfl) (by kernel_rfl) (by kernel_rfl) (fun _ _ _ h => h) (by rfl) hHeld ?_
                simp only [Act.put, List.setIfInBounds_toArray, List.set_cons_zero, List.set_cons_succ]
                refine take_struck 32 194 rfl rfl (by kernel_rfl) (by kernel_rfl) (by kernel_rfl) (fun _ _ _ h => h) (by rfl) hHeld ?_
                simp only [Act.put, List.setIfInBounds_toArray, List.set_cons_zero, List.set_cons_succ]
                refine take_struck 33 195 rfl rfl (by kernel_rfl) (by kernel_rfl) (by kernel_rfl) (fun _ _ _ h => h) (by rfl) hHeld ?_
                simp only [Act.put, List.setIfInBounds_toArray, List.set_cons_zero, List.set_cons_succ]
                refine take_struck 34 196 rfl rfl (by kernel_rfl) (by kernel_rfl) (by kernel_rfl) (fun _ _ _ h => h) (by rfl) hHeld ?_
                simp only [Act.put, List.setIfInBounds_toArray, List.set_cons_zero, List.set_cons_succ]
                refine take_plain 35 197 (.bool false) rfl rfl (by kernel_rfl) (by kernel_rfl) (by kernel_rfl) (fun _ _ _ h => h) (by rfl) ?_ hHeld ?_
                · intro w hSw
                  try dsimp only at hSw
                  go_simp
                simp only [Act.put, List.setIfInBounds_toArray, List.set_cons_zero, List.set_cons_succ]
                refine take_plain 36 198 (.bool false) rfl rfl (by kernel_rfl) (by kernel_rfl) (by kernel_rfl) (fun _ _ _ h => h) (by rfl) ?_ hHeld ?_
                · intro w hSw
                  try dsimp only at hSw
                  go_simp
                simp only [Act.put, List.setIfInBounds_toArray, List.set_cons_zero, List.set_cons_succ]
                refine take_struck 37 199 rfl rfl (by kernel_rfl) (by kernel_rfl) (by kernel_rfl) (fun _ _ _ h => h) (by rfl) hHeld ?_
                simp only [Act.put, List.setIfInBounds_toArray, List.set_cons_zero, List.set_cons_succ]
                refine take_struck 38 200 rfl rfl (by kernel_rfl) (by kernel_rfl) (by kernel_rfl) (fun _ _ _ h => h) (by rfl) hHeld ?_
                simp only [Act.put, List.setIfInBounds_toArray, List.set_cons_zero, List.set_cons_succ]
                refine take_struck 39 201 rfl rfl (by kernel_rfl) (by kernel_rfl) (by kernel_rfl) (fun _ _ _ h => h) (by rfl) hHeld ?_
                simp only [Act.put, List.setIfInBounds_toArray, List.set_cons_zero, List.set_cons_succ]
                refine take_struck 40 202 rfl rfl (by kernel_rfl) (by kernel_rfl) (by kernel_rfl) (fun _ _ _ h => h) (by rfl) hHeld ?_
                simp only [Act.put, List.setIfInBounds_toArray, List.set_cons_zero, List.set_cons_succ]
                refine take_struck 41 203 rfl rfl (by kernel_rfl) (by kernel_rfl) (by kernel_rfl) (fun _ _ _ h => h) (by rfl) hHeld ?_
                simp only [Act.put, List.setIfInBounds_toArray, List.set_cons_zero, List.set_cons_succ]
                refine take_struck 42 204 rfl rfl (by kernel_rfl) (by kernel_rfl) (by kernel_rfl) (fun _ _ _ h => h) (by rfl) hHeld ?_
                simp only [Act.put, List.setIfInBounds_toArray, List.set_cons_zero, List.set_cons_succ]
                refine take_plain 43 205 (.bool false) rfl rfl (by kernel_rfl) (by kernel_rfl) (by kernel_rfl) (fun _ _ _ h => h) (by rfl) ?_ hHeld ?_
                · intro w hSw
                  try dsimp only at hSw
                  go_simp
                simp only [Act.put, List.setIfInBounds_toArray, List.set_cons_zero, List.set_cons_succ]
                refine take_plain 44 206 (.bool false) rfl rfl (by kernel_rfl) (by kernel_rfl) (by kernel_rfl) (fun _ _ _ h => h) (by rfl) ?_ hHeld ?_
                · intro w hSw
                  try dsimp only at hSw
                  go_simp
                simp only [Act.put, List.setIfInBounds_toArray, List.set_cons_zero, List.set_cons_succ]
                refine wpAnyH_done (by kernel_rfl) ?_ _
                have hh := S4.low hHeld
                have h16 := hidden (hB.out.below hh)
                have c0 := hHeld.1
                have hrn4 := hidden (fun W : World => reads_new (k := .i64) (w := W) (e := 3) #[.int .i64 4] [4] 1 rfl rfl (by decide))
                clear hh hHeld
                clear hd hd0
                generalize wB.drew = wZ at *
                go_wp2_with fail
                refine (made_any _ _ [4] _ (hrn4.out _) (by decide)).mono ?_
                rintro r w17 ⟨v17, rfl, hv17, _, hb17⟩
                have h17 := hidden ((h16.out.below ((Below.refl _ _).alloc (Nat.le_refl _) _)).below hb17)
                clear hb17
                go_wp2_with fail
                refine (lsave h17.out hE.out hcm5.out (by rw [hn5.out]; decide) (by exact ⟨by omega, by omega, by decide, by decide⟩) hv17).mono ?_
                rintro e w18 ⟨rfl, h18, _⟩
                have hend := hidden (hlow.out _ h18.low)
                clear h18 h17 hv17
                go_wp2_with fail
                go_ret
                exact ⟨rfl, hend.out⟩
end Go.Proofs.YtcjjjoodnddoeaaDoor
