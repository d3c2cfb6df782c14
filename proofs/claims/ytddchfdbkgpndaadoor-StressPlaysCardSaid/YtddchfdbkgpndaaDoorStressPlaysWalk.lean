import Derived.Test.YtddchfdbkgpndaaDoorStressRef
import Derived.Test.YtddchfdbkgpndaaDoorLaidOn
import Derived.Deep.DeepCutAuto
namespace Go.Proofs.YtddchfdbkgpndaaDoor
open Go.RowKit
set_option linter.unusedVariables false

/-- a block of cells that is not the table's stays, whatever the table is told. -/
theorem LoAt.apart {w w' : World} {B g n k : Nat} {T : LTab} (h : LoAt w B g n T) (ht : Trd (loB w g) w w') (hk : k ≠ g) {cs : Array Value} {t : TypeId} {fr : Nat × Nat} (hr : w.heap[k]? = some (.cells cs t fr)) : w'.heap[k]? = some (.cells cs t fr) := keepsRows22_of h ht k cs t fr hk hr
/-- where a block of cells is turned that is not the table's, the table stays. -/
theorem LoAt.other {w w' : World} {B g n k : Nat} {T : LTab} (h : LoAt w B g n T) (ht : Trd (· = k) w w') (hk : k ≠ g) {cs : Array Value} {t : TypeId} {fr : Nat × Nat} (hr : w.heap[k]? = some (.cells cs t fr)) : LoAt w' B g n T := by
  refine h.trd ht fun j hj e => ?_
  have e : j = k := e
  subst e
  rcases (h.blocks hj).2.2 with e | ⟨es, c, e⟩
  · exact hk e
  · rw [hr] at e; cases e
theorem RlAt.lo22 {w w' : World} {B g h n : Nat} {T T' : LTab} (hC : RlAt w h T') (hL : LoAt w B g n T) (ht : Trd (loB w g) w w') (hne : h ≠ g) : RlAt w' h T' := ⟨hL.apart ht hne hC.row, hC.lo⟩
abbrev LdS (w0 : World) (b o : Nat) (s m x : Int) (W : World) : Prop := (W.cell? ⟨b, o, none⟩ = some (.int .i64 s) ∧ W.cell? ⟨b, o + 1, none⟩ = some (.int .i64 m) ∧ W.cell? ⟨b, o + 2, none⟩ = some (.int .i64 x)) ∧ Below w0.heap.size w0 W
section
variable {w0 W W' : World} {b o g n : Nat} {s m x : Int} {T : LTab}
theorem ldS_low (h : LdS w0 b o s m x W) : Below w0.heap.size w0 W := h.2
theorem ldS_step (hn : ∀ W, Below w0.heap.size w0 W → LdS w0 b o s m x W) (h : LdS w0 b o s m x W) (hb : Below W.heap.size W W') : LdS w0 b o s m x W' := hn _ (h.2.trans (hb.mono h.2.size))
theorem ldS_lo (hn : ∀ W, Below w0.heap.size w0 W → LdS w0 b o s m x W) (h : LdS w0 b o s m x W) (hL : LoAt W w0.heap.size g n T) (ht : Trd (loB W g) W W') : LdS w0 b o s m x W' := hn _ (h.2.trans (hL.keeps ht h.2.size))
theorem ldS_trd (hn : ∀ W, Below w0.heap.size w0 W → LdS w0 b o s m x W) (h : LdS w0 b o s m x W) (ht : Trd (· = g) W W') (hg : w0.heap.size ≤ g) : LdS w0 b o s m x W' := hn _ (h.2.trans (ht.below (fun j hj => by rw [hj]; exact hg) h.2.size))
end
theorem setLC_code (s : CelT) (x : Int) : codeOk (setLC s x) := by
  unfold setLC
  split
  · exact .inl rfl
  · exact .inr (by decide)
theorem twoC_codeOk (T : LTab) (s : Int) (l : List Int) : codeOk (twoC T s l) := by
  have := twoC_code T s l
  unfold codeOk
  omega
theorem covC_codeOk (T : LTab) (l : List Int) : codeOk (covR T l).c := by
  have := covS_code T l 16
  unfold codeOk covR
  omega
theorem topC_codeOk (l : List Int) : codeOk (topC l) := by
  have := topC_code l
  unfold codeOk
  omega
theorem rowCel_at {w : World} {a : Option Addr} {n c : Nat} {l : List CelT} (h : Row celCs 2 w (.slice a n c) l) (k : Nat) (hk : k < n) : ∃ b o, a = some ⟨b, o, none⟩ ∧
    w.cell? ⟨b, o + k * 2, none⟩ = some (.int .i64 (l.getD k (0, 0)).1) ∧ w.cell? ⟨b, o + k * 2 + 1, none⟩ = some (.int .i64 (l.getD k (0, 0)).2) := by
  obtain ⟨b, o, rfl, hc⟩ := h.at celCs_len (0, 0) k hk (by decide)
  exact ⟨b, o, rfl, hc 0 (by omega), hc 1 (by omega)⟩
def LpRel (N g h : Nat) (w0 : World) (i : Value) (w : World) : Prop :=
  ∃ (k : Nat) (T : LTab), k ≤ N ∧ i = .int .i64 (k : Int) ∧ LoAt w w0.heap.size g k T ∧ RlAt w h T ∧ Below w0.heap.size w0 w
def LpOut (T : LTab) (w0 : World) (n i : Value) (w : World) : Prop := ∃ k : Nat, k ≤ 16 ∧ i = .int .i64 ((k : Int) + 1) ∧ n = .int .i64 (((allLK T k).length : Nat) : Int) ∧ w0 = w
def LpIn (T : LTab) (k : Nat) (w0 : World) (n i : Value) (w : World) : Prop := ∃ j : Nat, j ≤ 32 ∧ i = .int .i64 ((j : Int) + 1) ∧ n = .int .i64 (((preL T k j).length : Nat) : Int) ∧ w0 = w
abbrev AskS (w0 : World) (p : Nat) (c d : Int) (W : World) : Prop := (W.cell? ⟨p, 0, none⟩ = some (.int .i64 c) ∧ W.cell? ⟨p, 1, none⟩ = some (.int .i64 d)) ∧ Below w0.heap.size w0 W
set_option maxRecDepth 100000 in
set_option maxHeartbeats 16000000 in
theorem walk_stressPlays (v : Value) (l : List LossD) (u : Value) (z : List Int) (s c d : Int) (A : Nat → Addr) (w : World) (hr : Row lossV 3 w v l) (hl : ∀ x ∈ l, LossBig x) (hz : Reads .i64 w u z) (hzb : ∀ x ∈ z, -9223372036854775808 ≤ x ∧ x ≤ 9223372036854775807)
    (s0 : -9223372036854775808 ≤ s) (s1 : s ≤ 9223372036854775807) (c0 : -9223372036854775808 ≤ c) (c1 : c ≤ 9223372036854775807) (d0 : -9223372036854775808 ≤ d) (d1 : d ≤ 9223372036854775807) (hS : Sents w A) :
    Calls Tryd.prog 3 #[v, u, .int .i64 s, .agg #[.int .i64 c, .int .i64 d]] w fun e w' => e = .returned (.bool true) ∧ Below w.heap.size w w' := by
  obtain ⟨va, vc, rfl⟩ := row_slice hr
  obtain ⟨za, zc, rfl⟩ := reads_slice hz
  have hba := hidden (below_cel w (c, d))
  have hE := hidden (hS.on [2, 3, 4] (by decide))
  have hF := hidden (law22_first A (w.alloc (celO (c, d))) (hE.out.below hba.out (Nat.le_refl _)))
  clear hzb s0 s1
  by_cases h60 : (60 : Int) < (l.length : Int)
  · have e1 : decide ((60 : Int) < (l.length : Int)) = true := decide_eq_true h60
    clear hr hl hz hE hS h60 c0 c1 d0 d1
    go_enter Tryd.func3, Tryd.ntmps3
    go_wp2_with fail
    refine hF.out.mono ?_
    rintro r w1 ⟨rfl, hb⟩
    have hb1 := hidden (hba.out.trans (hb.mono hba.out.size))
    clear hb
    go_wp2
    go_ret
    exact ⟨rfl, hb1.out⟩
  have e1 : decide ((60 : Int) < (l.length : Int)) = false := decide_eq_false h60
  by_cases h40 : (40 : Int) < (z.length : Int)
  · have e2 : decide ((40 : Int) < (z.length : Int)) = true := decide_eq_true h40
    clear hr hl hz hE hS h60 h40 c0 c1 d0 d1
    go_enter Tryd.func3, Tryd.ntmps3
    go_wp2_with fail
    refine hF.out.mono ?_
    rintro r w1 ⟨rfl, hb⟩
    have hb1 := hidden (hba.out.trans (hb.mono hba.out.size))
    clear hb
    go_wp2
    go_ret
    exact ⟨rfl, hb1.out⟩
  have e2 : decide ((40 : Int) < (z.length : Int)) = false := decide_eq_false h40
  have hl60 : l.length ≤ 60 := by omega
  have hra := hr.below lossV_len hba.out (Nat.le_refl _)
  have hza := hidden (hz.below hba.out (Nat.le_refl _))
  have hSa := hS.below hba.out (Nat.le_refl _)
  replace hE := hidden (hE.out.below hba.out (Nat.le_refl _))
  have hin := hidden (show celIn (c, d) from ⟨⟨c0, c1⟩, d0, d1⟩)
  have hask := hidden (fun W (h : Below (w.alloc (celO (c, d))).heap.size (w.alloc (celO (c, d))) W) => show AskS (w.alloc (celO (c, d))) w.heap.size c d W from ⟨cel_cells w W c d h, h⟩)
  have hzz := losses_zero
  clear hr hl hz h60 h40 c0 c1 d0 d1 hS
  go_enter Tryd.func3, Tryd.ntmps3
  go_wp2_with fail
  refine hF.out.mono ?_
  rintro r w1 ⟨rfl, hb⟩
  generalize w.alloc (celO (c, d)) = wa at *
  have hx := hidden (fun k hk W (h : Below wa.heap.size wa W) => rowLo_at (hra.below lossV_len h (Nat.le_refl _)) k hk)
  have hI := hidden (fun k (hk : codeOk k) W (h : Below wa.heap.size wa W) => is_self A k W (hSa.below h (Nat.le_refl _)) hk)
  obtain ⟨hn1, hn2⟩ := lnew22 hb
  have hn3 := rlAt_new (w1.alloc (.cells #[.map none] 29))
  have hsz : (w1.alloc (.cells #[.map none] 29)).heap.size = w1.heap.size + 1 := by simp
  rw [hsz] at hn3
  have hst := hidden (And.intro (hn1.below ((Below.refl _ _).alloc (Nat.le_refl _) (.cells (losC noL) 33)) (Nat.le_refl _)) (And.intro hn3 (hn2.alloc hn2.size (.cells (losC noL) 33))))
  have hgs := hidden hb.size
  clear hF hra hSa hb hn1 hn2 hn3 hsz
  generalize losC noL = F at *
  go_wp2_with fail
  go_loopw [12] (fun i wr => LpRel l.length w1.heap.size (w1.heap.size + 1) wa i wr) (fun i _ => l.length - (intOf i).toNat)
  case atStart => exact ⟨0, noL, Nat.zero_le _, rfl, hst.out.1, hst.out.2.1, hst.out.2.2⟩
  case round =>
    obtain ⟨k, T, hk, rfl, hL, hC, hb⟩ := hrel
    clear hst hzz
    have hne := hidden (show w1.heap.size + 1 ≠ w1.heap.size by omega)
    have hhi := hidden (show wa.heap.size ≤ w1.heap.size + 1 by have := hgs.out; omega)
    generalize w1.heap.size + 1 = h at *
    generalize w1.heap.size = g at *
    by_cases hlt : k < l.length
    · obtain ⟨b, o, rfl, _⟩ := hx.out k hlt wr hb
      have hq := hidden (fun W (h2 : Below wa.heap.size wa W) => show LdS wa b (o + k * 3) (l.getD k lossZ).s (l.getD k lossZ).m (l.getD k lossZ).x W by
        obtain ⟨b', o', e, q⟩ := hx.out k hlt _ h2
        simp only [Option.some.injEq, Addr.mk.injEq, and_true] at e
        obtain ⟨rfl, rfl⟩ := e
        exact ⟨q, h2⟩)
      have hlI : (k : Int) < (l.length : Int) := by omega
      have hk6 : k < 1000000 := by omega
      clear hx hask hin hza
      generalize l.getD k lossZ = e at *
      obtain ⟨es, em, ex⟩ := e
      simp only at hq
      have hs0 := hidden (hq.out _ hb.drew)
      have hSet := hidden (fun W (hb : Below wa.heap.size wa W) hL => show Calls Tryd.prog 8 #[.pointer (some ⟨g, 0, none⟩), .agg #[.int .i64 es, .int .i64 em], .int .i64 ex] W (LoDone A wa.heap.size g k T (es, em) ex W) from loSet_any A W wa.heap.size g k T hL hb.size hk6 (es, em) ex ((hE.out.sub (ks := [2]) (by simp)).below hb (Nat.le_refl _)))
      have hRef := hidden (fun W hC => refLoSet_any W h T es em ex hC)
      have hIs := hidden (fun W h => hI.out _ (setLC_code (es, em) ex) W h)
      unfold LoDone at hSet
      unfold RefLoSetAt at hRef
      replace hL := hidden (hL.same (w' := wr.drew) fun _ _ => rfl)
      replace hC := hidden (hC.block (w' := wr.drew) rfl)
      generalize setLT T (es, em) ex = T' at *
      generalize setLC (es, em) ex = cv at *
      clear hI hE hb
      go_wp2_with fail
      (go_region_held3 (fun W => (W.cell? ⟨b, o + k * 3, none⟩ = some (.int .i64 es) ∧ W.cell? ⟨b, o + k * 3 + 1, none⟩ = some (.int .i64 em) ∧ W.cell? ⟨b, o + k * 3 + 2, none⟩ = some (.int .i64 ex)) ∧ Below wa.heap.size wa W)
        ((first | exact hs0.out | assumption | exact ldS_step hq.out (by assumption) hb5 | exact ldS_lo hq.out (by assumption) hLo.out ht5 | exact ldS_trd hq.out (by assumption) ht6 hhi.out))
        ((first
          | (go_at_call 8; (with_reducible refine (hSet.out _ (ldS_low (by assumption)) hL.out).mono ?_); rintro e' w' ⟨rfl, hL5, ht5⟩; have hLo := hL; replace hC := hidden (hC.out.lo22 hLo.out ht5 hne.out); replace hL := hidden hL5; clear hL5)
          | (go_at_call 9; (with_reducible refine (hRef.out _ hC.out).mono ?_); rintro e' w' ⟨rfl, hC6, ht6⟩; replace hL := hidden (hL.out.other ht6 hne.out hC.out.row); replace hC := hidden hC6; clear hC6)
          | (go_at_call 7; (with_reducible refine (hIs.out _ (ldS_low (by assumption))).mono ?_); rintro e' w' ⟨rfl, hb5⟩; replace hL := hidden (hL.out.below hb5 (Nat.le_refl _)); replace hC := hidden (hC.out.below hb5)))))
      rename_i hh
      have hend := hidden (ldS_low hh)
      clear hh hs0 hSet hRef hIs
      go_wp2
      go_roundw
      case rel => exact ⟨k + 1, T', hlt, by go_num, hL.out, hC.out, hend.out⟩
      case measure => simp [intOf]; omega
    · obtain rfl : k = l.length := by omega
      have hAll := hidden (loAll_any wr _ _ _ _ hL)
      unfold LoListAt at hAll
      replace hL := hidden hL
      replace hC := hidden hC
      replace hb := hidden hb
      clear hx hlt hk hgs
      go_wp2_with fail
      (with_reducible refine hAll.out.mono ?_)
      rintro r w3 ⟨v3, rfl, hown, hd3⟩
      obtain ⟨aa, ac, rfl⟩ := row_slice (hown.row celCs_len)
      have hL3 := hidden (hL.out.below hd3 (Nat.le_refl _))
      have hC3 := hidden (hC.out.below hd3)
      have hb3 := hidden (hb.out.trans (hd3.mono hb.out.size))
      have hrw := hidden (hown.row celCs_len)
      have hlo := hidden hL.out.lo
      clear hL hC hb hown hd3 hAll
      go_wp2_with fail
      go_loopw [14, 15] (fun n i wr => LpOut T w3 n i wr) (fun _ i _ => 17 - (intOf i).toNat)
      case atStart => exact ⟨0, by omega, rfl, rfl, rfl⟩
      case round =>
        obtain ⟨k, hk, rfl, rfl, rfl⟩ := hrel
        by_cases hk6 : k < 16
        · have hkI : (k : Int) + 1 ≤ 16 := by omega
          rw [← preL_zero]
          go_wp2_with fail
          go_loopw [14, 16] (fun n i wr => LpIn T k w3 n i wr) (fun _ i _ => 33 - (intOf i).toNat)
          case atStart => exact ⟨0, by omega, rfl, rfl, rfl⟩
          case round =>
            obtain ⟨j, hj, rfl, rfl, rfl⟩ := hrel
            by_cases hj6 : j < 32
            · have hjI : (j : Int) + 1 ≤ 32 := by omega
              have cI : w3.cell? ⟨h, (k + 1) * 33 + (j + 1), none⟩ = some (.int .i64 (getL T ((k : Int) + 1, (j : Int) + 1))) := hC3.out.cell (k + 1) (j + 1) (by omega) (by omega)
              have hnx := hidden (preL_next T k j)
              have hat := hidden (allL_at T k j hk6 hj6)
              have hn36 : ((preL T k j).length : Int) ≤ 512 := by have := preL_le T k j hk6 hj; omega
              have hvb := (hlo.out.get ((k : Int) + 1, (j : Int) + 1)).1
              have hk17 : (k : Int) + 1 < 17 := by omega
              have hj33 : (j : Int) + 1 < 33 := by omega
              have hk0 : (0 : Int) ≤ (k : Int) + 1 := by omega
              have hj0 : (0 : Int) ≤ (j : Int) + 1 := by omega
              clear hC3 hL3 hb3 hin hask hE hza hI hlo
              generalize getL T ((k : Int) + 1, (j : Int) + 1) = y at *
              generalize hn : (preL T k j).length = n at *
              replace hn := hidden hn
              by_cases hy : 0 < y
              · obtain ⟨hlt, hgd⟩ := hat.out hy
                rw [if_pos hy] at hnx
                have hyB : (y == 0) = false := by rw [beq_eq_false_iff_ne]; omega
                obtain ⟨bs, os, rfl, r0, r1⟩ := rowCel_at hrw.out n hlt
                rw [hgd] at r0 r1
                simp only at r0 r1
                have hltI : (n : Int) < ((allL T).length : Int) := by omega
                clear hat hrw hgd hvb hy
                generalize (allL T).length = L at *
                go_wp2
                go_roundw
                case rel => exact ⟨j + 1, by omega, by go_num, by rw [hnx.out]; simp [hn.out], rfl⟩
                case measure => simp [intOf]; omega
              · rw [if_neg hy] at hnx
                have hyB : (y == 0) = true := by rw [beq_iff_eq]; omega
                clear hat hrw hvb hy
                go_wp2
                go_roundw
                case rel => exact ⟨j + 1, by omega, by go_num, by rw [hnx.out]; simp [hn.out], rfl⟩
                case measure => simp [intOf]; omega
            · obtain rfl : j = 32 := by omega
              rw [preL_last]
              go_wp2
              go_roundw
              case rel => exact ⟨k + 1, by omega, by go_num, rfl, rfl⟩
              case measure => simp [intOf]; omega
        · obtain rfl : k = 16 := by omega
          have he6 : allLK T 16 = allL T := rfl
          rw [he6]
          clear he6 hrw
          have hsub := hidden (hE.out.sub (ks := [2, 3]) (by simp))
          have hT1 := hidden (loTwo_any A w3 _ _ _ T hL3.out s _ z (hza.out.below hb3.out (Nat.le_refl _)) (hE.out.below hb3.out (Nat.le_refl _)))
          have hT2 := hidden (fun W (hb : Below w3.heap.size w3 W) => refTwo_any W h T (hC3.out.below hb) s _ z (hza.out.below (hb3.out.trans (hb.mono hb3.out.size)) (Nat.le_refl _)))
          have hT3 := hidden (fun W (hb : Below w3.heap.size w3 W) => loCover_any A W _ _ _ T (hL3.out.below hb (Nat.le_refl _)) _ z (hza.out.below (hb3.out.trans (hb.mono hb3.out.size)) (Nat.le_refl _)) (hE.out.below (hb3.out.trans (hb.mono hb3.out.size)) (Nat.le_refl _)))
          have hT4 := hidden (fun W (hb : Below w3.heap.size w3 W) => refCover_any W h T (hC3.out.below hb) _ z (hza.out.below (hb3.out.trans (hb.mono hb3.out.size)) (Nat.le_refl _)))
          have hT5 := hidden (fun W (hb : Below w3.heap.size w3 W) => loTop_any A W _ z (hza.out.below (hb3.out.trans (hb.mono hb3.out.size)) (Nat.le_refl _)) (hsub.out.below (hb3.out.trans (hb.mono hb3.out.size)) (Nat.le_refl _)))
          have hT6 := hidden (fun W (hb : Below w3.heap.size w3 W) => refTop_any W _ z (hza.out.below (hb3.out.trans (hb.mono hb3.out.size)) (Nat.le_refl _)))
          have hGx := hidden (fun W hL => show Calls Tryd.prog 17 #[.pointer (some ⟨g, 0, none⟩), .agg #[.int .i64 c, .int .i64 d]] W (fun e w' => e = .returned (.int .i64 (getL T (c, d))) ∧ Below W.heap.size W w') from loGet_any W wa.heap.size g l.length T hL (c, d) hin.out)
          have hGy := hidden (fun W hC => refLoGet_any W h T c d hC)
          have hI1 := hidden (hI.out _ (twoC_codeOk T s z))
          have hI2 := hidden (hI.out _ (covC_codeOk T z))
          have hI3 := hidden (hI.out _ (topC_codeOk z))
          clear hI hin hsub hE hza hlo
          generalize getL T (c, d) = gv at *
          generalize (allL T).length = L at *
          generalize twoV T s z = tv at *
          generalize twoC T s z = tc at *
          generalize (covR T z).v = cv at *
          generalize (covR T z).s = cs at *
          generalize (covR T z).c = cc at *
          generalize topV z = pv at *
          generalize topC z = pc at *
          go_wp2_with fail
          (with_reducible refine hT1.out.mono ?_)
          rintro r w4 ⟨rfl, hd4⟩
          have hX := hidden (hT2.out _ hd4)
          have hb4 := hidden hd4
          clear hT1 hT2 hd4
          go_wp2_with fail
          (with_reducible refine hX.out.mono ?_)
          rintro r w5 ⟨rfl, hd5⟩
          have hb5' := hidden (hb4.out.trans (hd5.mono hb4.out.size))
          clear hX hb4 hd5
          have hX := hidden (hT3.out _ hb5'.out)
          clear hT3
          go_wp2_with fail
          (with_reducible refine hX.out.mono ?_)
          rintro r w6 ⟨rfl, hd6⟩
          have hb6 := hidden (hb5'.out.trans (hd6.mono hb5'.out.size))
          clear hX hb5' hd6
          have hX := hidden (hT4.out _ hb6.out)
          clear hT4
          go_wp2_with fail
          (with_reducible refine hX.out.mono ?_)
          rintro r w7 ⟨rfl, hd7⟩
          have hb7 := hidden (hb6.out.trans (hd7.mono hb6.out.size))
          clear hX hb6 hd7
          have hX := hidden (hT5.out _ hb7.out)
          clear hT5
          go_wp2_with fail
          (with_reducible refine hX.out.mono ?_)
          rintro r w8 ⟨rfl, hd8⟩
          have hb8 := hidden (hb7.out.trans (hd8.mono hb7.out.size))
          clear hX hb7 hd8
          have hX := hidden (hT6.out _ hb8.out)
          clear hT6
          go_wp2_with fail
          (with_reducible refine hX.out.mono ?_)
          rintro r w9 ⟨rfl, rfl⟩
          have hL := hidden ((hL3.out.below hb8.out (Nat.le_refl _)).same (w' := w8.drew) fun _ _ => rfl)
          have hC := hidden ((hC3.out.below hb8.out).block (w' := w8.drew) rfl)
          have hs0 := hidden (hask.out _ (hb3.out.trans (hb8.out.mono hb3.out.size)).drew)
          clear hX hL3 hC3 hb8 hb3
          go_wp2_with fail
          (go_region_held3 (fun W => (W.cell? ⟨w.heap.size, 0, none⟩ = some (.int .i64 c) ∧ W.cell? ⟨w.heap.size, 1, none⟩ = some (.int .i64 d)) ∧ Below wa.heap.size wa W)
            ((first | exact hs0.out | assumption | exact hask.out _ (Below.trans (And.right (by assumption)) (hb5.mono (Below.size (And.right (by assumption)))))))
            ((first
              | (go_at_call 17; (with_reducible refine (hGx.out _ hL.out).mono ?_); rintro e' w' ⟨rfl, hb5⟩; replace hL := hidden (hL.out.below hb5 (Nat.le_refl _)); replace hC := hidden (hC.out.below hb5))
              | (go_at_call 18; (with_reducible refine (hGy.out _ hC.out).mono ?_); rintro e' w' ⟨rfl, rfl⟩)
              | (go_at_call 7; (with_reducible refine (hI1.out _ (And.right (by assumption))).mono ?_); rintro e' w' ⟨rfl, hb5⟩; replace hL := hidden (hL.out.below hb5 (Nat.le_refl _)); replace hC := hidden (hC.out.below hb5))
              | (go_at_call 7; (with_reducible refine (hI2.out _ (And.right (by assumption))).mono ?_); rintro e' w' ⟨rfl, hb5⟩; replace hL := hidden (hL.out.below hb5 (Nat.le_refl _)); replace hC := hidden (hC.out.below hb5))
              | (go_at_call 7; (with_reducible refine (hI3.out _ (And.right (by assumption))).mono ?_); rintro e' w' ⟨rfl, hb5⟩; replace hL := hidden (hL.out.below hb5 (Nat.le_refl _)); replace hC := hidden (hC.out.below hb5)))))
          rename_i hh
          have hend := hidden (hba.out.trans (hh.2.mono hba.out.size))
          clear hh hs0 hGx hGy hI1 hI2 hI3 hL hC
          go_wp2
          go_ret
          exact ⟨rfl, hend.out⟩
end Go.Proofs.YtddchfdbkgpndaaDoor
