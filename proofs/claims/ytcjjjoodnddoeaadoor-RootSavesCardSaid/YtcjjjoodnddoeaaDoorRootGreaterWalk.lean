import Derived.Test.YtcjjjoodnddoeaaDoorRootTearsWalk
namespace Go.Proofs.YtcjjjoodnddoeaaDoor
open Go.RowKit
set_option linter.unusedVariables false

/-- a root in block g. -/
def RtIs (w : World) (g : Nat) (e : Int) (u : Value) : Prop := w.heap[g]? = some (rtO e u)
section
variable {w w' : World} {g : Nat} {e : Int} {u : Value}
theorem RtIs.below {B : Nat} (h : RtIs w g e u) (hb : Below B w w') (hB : w.heap.size ≤ B) : RtIs w' g e u := by
  have hl := (Array.getElem?_eq_some_iff.1 (show w.heap[g]? = _ from h)).1
  exact (hb.block g (by omega)).trans h
theorem RtIs.c0 (h : RtIs w g e u) : w.cell? ⟨g, 0, none⟩ = some (.int .i64 e) := by rw [cell_of_row _ _ _ _ _ _ h]; rfl
theorem RtIs.c1 (h : RtIs w g e u) : w.cell? ⟨g, 1, none⟩ = some u := by rw [cell_of_row _ _ _ _ _ _ h]; rfl
theorem RtIs.f (h : RtIs w g e u) (j : Nat) : w.frozen? ⟨g, j, none⟩ = false := by have := h; unfold RtIs at this; simp [World.frozen?, this]
theorem rtIs_new (w : World) (e : Int) (u : Value) : RtIs (w.alloc (rtO e u)) w.heap.size e u := heap_alloc_new w _
end
def Dk2 (n : Nat) (a b : Int) (l m : List Int) : Dk := savD (savD (newDk n) a l) b m
theorem dk2_calm (n : Nat) (a b : Int) (l m : List Int) : (Dk2 n a b l m).Calm := savD_calm (savD_calm (calm_new n) a l) b m
/-- the greater one of two. -/
def pick2 : Option (Int × List Int) → Option (Int × List Int) → Option (Int × List Int)
  | none, q => q
  | some p, none => some p
  | some p, some q => if p.1 < q.1 then some q else some p
theorem load_two {D : Dk} {p q : Option (Int × List Int)} (hp : rootOf (D.see 0) = p) (hq : rootOf (D.see 1) = q) : loadOf D = pick2 p q := by
  have e0 : ∀ x : Int × List Int, better none (some x) = if 0 < x.1 then some x else none := fun x => rfl
  have e1 : ∀ x y : Int × List Int, better (some x) (some y) = if x.1 < y.1 then some y else some x := fun x y => rfl
  have pos : ∀ (k : Nat) (x : Int × List Int), rootOf (D.see k) = some x → 0 < x.1 := fun k x hx => by
    have := (rootOf_pos (e := x.1) (xs := x.2) hx).1
    omega
  rw [loadOf, bestK, bestK, bestK, hp, hq]
  cases p with
  | none =>
    cases q with
    | none => rfl
    | some y => show better none (some y) = some y; rw [e0, if_pos (pos 1 y hq)]
  | some x =>
    rw [e0, if_pos (pos 0 x hp)]
    cases q with
    | none => rfl
    | some y => exact e1 x y
theorem great_load {a b : Int} {l m : List Int} {z : List Int} {n : Nat} (ha : RtOk a l) (hb : RtOk b m) (hne : a % 2 ≠ b % 2) : loadOf ((Dk2 n a b l m).write 3 z).flush = if a < b then some (b, m) else some (a, l) := by
  have s : ∀ j : Nat, j < 2 → ((Dk2 n a b l m).write 3 z).flush.see j = if b % 2 = (j : Int) then rtB b m else if a % 2 = (j : Int) then rtB a l else (newDk n).see j := fun j hj => by
    rw [see_flush, see_write, if_neg (by omega), Dk2, savD_see, savD_see]
  have h0 := s 0 (by omega)
  have h1 := s 1 (by omega)
  by_cases hp : b % 2 = 0
  · rw [if_pos (by omega)] at h0
    rw [if_neg (by omega), if_pos (by omega)] at h1
    rw [load_two (by rw [h0, rootOf_rtB hb]) (by rw [h1, rootOf_rtB ha])]
    show (if b < a then some (a, l) else some (b, m)) = _
    have : a ≠ b := fun e => hne (by rw [e])
    by_cases hab : a < b
    · rw [if_neg (by omega), if_pos hab]
    · rw [if_pos (by omega), if_neg hab]
  · rw [if_neg (by omega), if_pos (by omega)] at h0
    rw [if_pos (by omega)] at h1
    rw [load_two (by rw [h0, rootOf_rtB ha]) (by rw [h1, rootOf_rtB hb])]
    rfl
theorem rem2 {a : Int} (h : 1 ≤ a) : a.tmod 2 = a % 2 := Int.tmod_eq_emod_of_nonneg (by omega)
set_option maxRecDepth 100000 in
set_option maxHeartbeats 1600000 in
theorem walk_rootGreater (a b : Int) (lv : Value) (l : List Int) (mv : Value) (m : List Int) (A : Nat → Addr) (w : World) (ha : -9223372036854775808 ≤ a) (ha2 : a ≤ 9223372036854775807) (hb : -9223372036854775808 ≤ b) (hb2 : b ≤ 9223372036854775807)
    (hr : Reads .i64 w lv l) (hl : ∀ x ∈ l, -9223372036854775808 ≤ x ∧ x ≤ 9223372036854775807) (hll : l.length ≤ 17592186043904) (hr2 : Reads .i64 w mv m) (hm : ∀ x ∈ m, -9223372036854775808 ≤ x ∧ x ≤ 9223372036854775807) (hml : m.length ≤ 17592186043904) (hS : Sents w A) :
    Calls Tryd.prog 6 #[.int .i64 a, .int .i64 b, lv, mv] w fun e w' => e = .returned (.bool true) ∧ Below w.heap.size w w' := by
  have hF := hidden (law6_first A w (hS.on _ (by decide)))
  have hE := hidden (fun W (h : Below w.heap.size w W) => (hS.on [2, 4] (by decide)).below h (Nat.le_refl _))
  have hE5 := hidden (fun W (h : Below w.heap.size w W) => (hS.on [1, 2, 4, 7, 8] (by decide)).below h (Nat.le_refl _))
  have hI := hidden (fun W (h : Below w.heap.size w W) => (show Calls Tryd.prog 10 #[.nilIface, .int .i64 0] W fun e w' => e = .returned (.bool ((0 : Int) == 0)) ∧ Below W.heap.size W w' from is_any A 0 0 W (hS.below h (Nat.le_refl _)) (.inl rfl)))
  have hM := hidden (fun W (h : Below w.heap.size w W) => made_any a lv l W (hr.below h (Nat.le_refl _)) hll)
  have hM2 := hidden (fun W (h : Below w.heap.size w W) => made_any b mv m W (hr2.below h (Nat.le_refl _)) hml)
  clear hS hl hm hr hr2 hb2 ha2 ha hb
  go_enter Tryd.func6, Tryd.ntmps6
  go_wp2_with fail
  with_reducible refine hF.out.mono ?_
  rintro r w1 ⟨rfl, hw⟩
  replace hw := hidden hw
  clear hF
  go_wp2_with fail
  with_reducible refine (hM.out _ hw.out).mono ?_
  rintro r w2 ⟨u, rfl, hu, hfu, hb2⟩
  obtain ⟨ua, uc, rfl⟩ := reads_slice hu
  have hx := hidden (rtIs_new w2 a (.slice ua l.length uc))
  have hba := (Below.refl w2.heap.size w2).alloc (Nat.le_refl _) (rtO a (.slice ua l.length uc))
  have hw3 := hidden ((hw.out.trans (hb2.mono hw.out.size)).trans (hba.mono (hw.out.trans (hb2.mono hw.out.size)).size))
  have hu3 := hidden (hu.below hba (Nat.le_refl _))
  clear hu hfu hb2 hba hM hw
  go_wp2_with fail
  with_reducible refine (hM2.out _ hw3.out).mono ?_
  rintro r w4 ⟨v, rfl, hv, hfv, hb4⟩
  obtain ⟨va, vc, rfl⟩ := reads_slice hv
  have hba := (Below.refl w4.heap.size w4).alloc (Nat.le_refl _) (rtO b (.slice va m.length vc))
  have hy := hidden (rtIs_new w4 b (.slice va m.length vc))
  have hx5 := hidden ((hx.out.below hb4 (Nat.le_refl _)).below hba (Nat.le_refl _))
  have hw5 := hidden ((hw3.out.trans (hb4.mono hw3.out.size)).trans (hba.mono (hw3.out.trans (hb4.mono hw3.out.size)).size))
  have hu5 := hidden ((hu3.out.below hb4 (Nat.le_refl _)).below hba (Nat.le_refl _))
  have hv5 := hidden (hv.below hba (Nat.le_refl _))
  clear hv hfv hb4 hba hM2 hw3 hu3 hx
  have c0 := hx5.out.c0
  have c1 := hx5.out.c1
  have hBa := hidden (rtBytes_any A a _ l _ hu5.out (hE.out _ hw5.out))
  go_wp2_with fail
  generalize w4.alloc (rtO b (.slice va m.length vc)) = w5 at *
  generalize w4.heap.size = by_ at *
  generalize w2.heap.size = bx at *
  with_reducible refine hBa.out.mono ?_
  rintro r w6 ⟨hb6, v6, rfl, hv6⟩
  have hy6 := hidden (hy.out.below hb6 (Nat.le_refl _))
  have hx6 := hidden (hx5.out.below hb6 (Nat.le_refl _))
  have hw6 := hidden (hw5.out.trans (hb6.mono hw5.out.size))
  have hu6 := hidden (hu5.out.below hb6 (Nat.le_refl _))
  have hv6' := hidden (hv5.out.below hb6 (Nat.le_refl _))
  have hBb := hidden (rtBytes_any A b _ m _ hv6'.out (hE.out _ hw6.out))
  clear hv6 hb6 hu5 hv5 hw5 hx5 hy hBa c0 c1
  have c0 := hy6.out.c0
  have c1 := hy6.out.c1
  go_wp2_with fail
  with_reducible refine hBb.out.mono ?_
  rintro r w7 ⟨hb7, v7, rfl, hv7⟩
  have hy7 := hidden (hy6.out.below hb7 (Nat.le_refl _))
  have hx7 := hidden (hx6.out.below hb7 (Nat.le_refl _))
  have hw7 := hidden (hw6.out.trans (hb7.mono hw6.out.size))
  have hu7 := hidden (hu6.out.below hb7 (Nat.le_refl _))
  have hv7' := hidden (hv6'.out.below hb7 (Nat.le_refl _))
  clear hv7 hb7 hu6 hv6' hw6 hx6 hy6 hBb c0 c1
  by_cases hz : rtC a l = 0
  · have he0 : errOf A (rtC a l) = .nilIface := by rw [hz]; rfl
    by_cases hz2 : rtC b m = 0
    · have he1 : errOf A (rtC b m) = .nilIface := by rw [hz2]; rfl
      rw [he0, he1]
      have hok := hidden (rtC_ok.1 hz)
      have hok2 := hidden (rtC_ok.1 hz2)
      have a0 := hok.out.e0
      have b0 := hok2.out.e0
      have am : (0 : Int) ≤ a % 2 ∧ a % 2 < 2 := by omega
      have bm : (0 : Int) ≤ b % 2 ∧ b % 2 < 2 := by omega
      clear he0 he1 hz hz2
      by_cases hab : a % 2 = b % 2
      · have hab2 : (a % 2 == b % 2) = true := beq_iff_eq.2 hab
        replace hab := hidden hab
        go_wp2_with fail
        go_ret
        exact ⟨rfl, hw7.out⟩
      · have hab2 : (a % 2 == b % 2) = false := beq_eq_false_iff_ne.2 hab
        replace hab := hidden hab
        go_wp2_with fail
        refine (lnew (w0 := w7) 5 (by decide) (by decide) (Below.refl _ _)).mono ?_
        rintro e w8 ⟨d, g, mm, rfl, h8, _, _⟩
        replace h8 := hidden h8
        have c0 := (hx7.out.below h8.out.low (Nat.le_refl _)).c0
        have c1 := (hx7.out.below h8.out.low (Nat.le_refl _)).c1
        have hE7 := hidden (hE5.out _ hw7.out)
        go_wp2_with fail
        refine (lsave h8.out hE7.out (calm_new 5) (by decide) hok.out (hu7.out.below h8.out.low (Nat.le_refl _))).mono ?_
        rintro e w9 ⟨rfl, h9, _⟩
        replace h9 := hidden h9
        clear h8 c0 c1
        have c0 := (hy7.out.below h9.out.low (Nat.le_refl _)).c0
        have c1 := (hy7.out.below h9.out.low (Nat.le_refl _)).c1
        go_wp2_with fail
        refine (lsave h9.out hE7.out (savD_calm (calm_new 5) _ _) (by show 2 ≤ 5; decide) hok2.out (hv7'.out.below h9.out.low (Nat.le_refl _))).mono ?_
        rintro e w10 ⟨rfl, h10, _⟩
        have h10 : Hid (LawAt w7 w10 d g mm (Dk2 5 a b l m)) := hidden h10
        clear h9 c0 c1
        go_wp2_with fail
        refine (made_any 1099511627776 (.slice none 0 0) [] w10 (Reads.nil _ _) (by simp)).mono ?_
        rintro e w11 ⟨u11, rfl, hu11, _, hb11⟩
        have h11 := hidden (h10.out.below hb11)
        have hBz := hidden (rtBytes_any A 1099511627776 u11 [] w11 hu11 ((hE7.out.sub (by decide)).law h11.out))
        have hz0 := hidden (show rtC 1099511627776 [] = 0 from rfl)
        clear hb11 hu11 h10
        go_wp2_with fail
        refine hBz.out.mono ?_
        rintro e w12 ⟨hb12, v12, rfl, hv12⟩
        rcases hv12 with ⟨_, gz, rfl, hgz, hBz2⟩ | ⟨hne, _⟩
        · have h12 := hidden (h11.out.below hb12)
          have hap := hidden (fresh_apart (n := 128) (c := 128) h11.out hgz)
          have hsec := hidden (rtB_ok (rtC_ok.1 hz0.out))
          have hrz := hidden (hBz2.reads hsec.out.1 (by decide))
          have hez : errOf A (rtC 1099511627776 []) = .nilIface := by rw [hz0.out]; rfl
          rw [hez]
          clear hb12 hBz2 hgz hez h11 hBz
          go_wp2_with fail
          refine (lwrite h12.out ((hE7.out.sub (by decide)).law h12.out) (dk2_calm _ _ _ _ _) 3 (by decide) (by show (3 : Int) < ((5 : Nat) : Int); decide) hap.out hsec.out hrz.out).mono ?_
          rintro e w13 ⟨rfl, h13, _⟩
          replace h13 := hidden h13
          clear h12 hap hrz
          go_wp2_with fail
          refine (lflush h13.out ((hE7.out.sub (by decide)).law h13.out) ((dk2_calm _ _ _ _ _).write _ _)).mono ?_
          rintro e w14 ⟨rfl, h14, _⟩
          replace h14 := hidden h14
          clear h13
          have hgl := hidden (great_load (n := 5) (z := rtB 1099511627776 []) hok.out hok2.out hab.out)
          by_cases hlt : a < b
          · have hgl2 := hidden (hgl.out.trans (if_pos hlt))
            go_wp2_with fail
            refine (lload1 h14.out hE7.out ((dk2_calm _ _ _ _ _).write _ _).flush (by show 2 ≤ 5; decide) hgl2.out).mono ?_
            rintro e w15 ⟨u15, rfl, h15, hu15, hf15, hb15⟩
            obtain ⟨pa, pc, rfl⟩ := reads_slice hu15
            have hw15 := hidden (hw7.out.trans (h15.low.mono hw7.out.size))
            have al := fun (W : World) (o : Obj) => (Below.refl W.heap.size W).alloc (Nat.le_refl _) o
            have hx15 := hx7.out.below h15.low (Nat.le_refl _)
            have hy15 := hy7.out.below h15.low (Nat.le_refl _)
            have hx16 := hx15.below (al w15 (rtO b (.slice pa m.length pc))) (Nat.le_refl _)
            have hy17 := (hy15.below (al w15 (rtO b (.slice pa m.length pc))) (Nat.le_refl _)).below (al _ (rtO a (.slice ua l.length uc))) (Nat.le_refl _)
            have c0 := hx16.c0
            have c1 := hx16.c1
            have d0 := hy17.c0
            have d1 := hy17.c1
            have hR := hidden (fun W (hW : Below w15.heap.size w15 W) => same_yes b (.slice pa m.length pc) (.slice va m.length vc) m W (hu15.below hW (Nat.le_refl _)) ((hv7'.out.below h15.low (Nat.le_refl _)).below hW (Nat.le_refl _)) (by have := hok2.out.len; omega))
            have hal2 := hidden (fun o o' => ((Below.refl w15.heap.size w15).alloc (Nat.le_refl _) o).alloc (by simp) o')
            have h00 : ((0 : Int) == 0) = true := rfl
            rw [h00] at hI
            clear hb15 hf15 hu15 h14 h15 hx15 hy15 hx16 hy17 al
            go_wp2_with fail
            with_reducible refine (hR.out _ (hal2.out _ _)).mono ?_
            rintro r w18 ⟨rfl, hb18⟩
            have hw18 := hidden (hw15.out.trans (((hal2.out _ _).trans (hb18.mono (hal2.out _ _).size)).mono hw15.out.size))
            have hI18 := hidden (hI.out w18 hw18.out)
            clear hb18 hR
            go_wp2_with fail
            with_reducible refine hI18.out.mono ?_
            rintro r w19 ⟨rfl, hb19⟩
            have hw19 := hidden (hw18.out.trans (hb19.mono hw18.out.size))
            clear hb19 hI18
            go_wp2
            go_ret
            exact ⟨rfl, hw19.out⟩
          · have hgl2 := hidden (hgl.out.trans (if_neg hlt))
            go_wp2_with fail
            refine (lload1 h14.out hE7.out ((dk2_calm _ _ _ _ _).write _ _).flush (by show 2 ≤ 5; decide) hgl2.out).mono ?_
            rintro e w15 ⟨u15, rfl, h15, hu15, hf15, hb15⟩
            obtain ⟨pa, pc, rfl⟩ := reads_slice hu15
            have hw15 := hidden (hw7.out.trans (h15.low.mono hw7.out.size))
            have al := fun (W : World) (o : Obj) => (Below.refl W.heap.size W).alloc (Nat.le_refl _) o
            have hx15 := hx7.out.below h15.low (Nat.le_refl _)
            have hy15 := hy7.out.below h15.low (Nat.le_refl _)
            have hx16 := hx15.below (al w15 (rtO a (.slice pa l.length pc))) (Nat.le_refl _)
            have hy17 := (hy15.below (al w15 (rtO a (.slice pa l.length pc))) (Nat.le_refl _)).below (al _ (rtO a (.slice ua l.length uc))) (Nat.le_refl _)
            have c0 := hx16.c0
            have c1 := hx16.c1
            have d0 := hy17.c0
            have d1 := hy17.c1
            have hR := hidden (fun W (hW : Below w15.heap.size w15 W) => same_yes a (.slice pa l.length pc) (.slice ua l.length uc) l W (hu15.below hW (Nat.le_refl _)) ((hu7.out.below h15.low (Nat.le_refl _)).below hW (Nat.le_refl _)) (by have := hok.out.len; omega))
            have hal2 := hidden (fun o o' => ((Below.refl w15.heap.size w15).alloc (Nat.le_refl _) o).alloc (by simp) o')
            have h00 : ((0 : Int) == 0) = true := rfl
            rw [h00] at hI
            clear hb15 hf15 hu15 h14 h15 hx15 hy15 hx16 hy17 al
            go_wp2_with fail
            with_reducible refine (hR.out _ (hal2.out _ _)).mono ?_
            rintro r w18 ⟨rfl, hb18⟩
            have hw18 := hidden (hw15.out.trans (((hal2.out _ _).trans (hb18.mono (hal2.out _ _).size)).mono hw15.out.size))
            have hI18 := hidden (hI.out w18 hw18.out)
            clear hb18 hR
            go_wp2_with fail
            with_reducible refine hI18.out.mono ?_
            rintro r w19 ⟨rfl, hb19⟩
            have hw19 := hidden (hw18.out.trans (hb19.mono hw18.out.size))
            clear hb19 hI18
            go_wp2
            go_ret
            exact ⟨rfl, hw19.out⟩
        · exact absurd hz0.out hne
    · obtain ⟨j, hj⟩ := errOf_at (A := A) hz2
      rw [he0, hj]
      clear he0 hj
      go_wp2_with fail
      go_ret
      exact ⟨rfl, hw7.out⟩
  · obtain ⟨j, hj⟩ := errOf_at (A := A) hz
    rw [hj]
    clear hj
    by_cases hz2 : rtC b m = 0
    · have he1 : errOf A (rtC b m) = .nilIface := by rw [hz2]; rfl
      rw [he1]
      clear he1
      go_wp2_with fail
      go_ret
      exact ⟨rfl, hw7.out⟩
    · obtain ⟨j2, hj⟩ := errOf_at (A := A) hz2
      rw [hj]
      clear hj
      go_wp2_with fail
      go_ret
      exact ⟨rfl, hw7.out⟩
end Go.Proofs.YtcjjjoodnddoeaaDoor
