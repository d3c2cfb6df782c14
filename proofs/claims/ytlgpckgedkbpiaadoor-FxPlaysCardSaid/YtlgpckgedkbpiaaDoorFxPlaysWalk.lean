import Derived.Test.YtlgpckgedkbpiaaDoorFx2
import Derived.Test.YtlgpckgedkbpiaaDoorIsSelf
import Derived.Test.YtlgpckgedkbpiaaDoorRefMoney
import Derived.Test.YtlgpckgedkbpiaaDoorSameInts
import Derived.Test.YtlgpckgedkbpiaaDoorRow
import Derived.Test.YtlgpckgedkbpiaaDoorLaidOn
import Derived.Deep.DeepCutAuto
namespace Go.Proofs.YtlgpckgedkbpiaaDoor
open Go.RowKit
set_option linter.unusedVariables false

/-- a rate that is set: its currency, the rate. -/
abbrev RaDo := Int × Int
def raDoV (d : RaDo) : List Value := [.int .i64 d.1, .int .i64 d.2]
theorem raDoV_len (d : RaDo) : (raDoV d).length = 2 := rfl
def RaDoBig (d : RaDo) : Prop := (-9223372036854775808 ≤ d.1 ∧ d.1 ≤ 9223372036854775807) ∧ (-9223372036854775808 ≤ d.2 ∧ d.2 ≤ 9223372036854775807)
theorem rowRa_at {w : World} {a : Option Addr} {n c : Nat} {l : List RaDo} (h : Row raDoV 2 w (.slice a n c) l) (k : Nat) (hk : k < n) : ∃ b o, a = some ⟨b, o, none⟩ ∧
    w.cell? ⟨b, o + k * 2, none⟩ = some (.int .i64 (l.getD k (0, 0)).1) ∧ w.cell? ⟨b, o + k * 2 + 1, none⟩ = some (.int .i64 (l.getD k (0, 0)).2) := by
  obtain ⟨b, o, rfl, hc⟩ := h.at raDoV_len (0, 0) k hk (by decide)
  exact ⟨b, o, rfl, hc 0 (by omega), hc 1 (by omega)⟩
theorem raC_ok (m r : Int) : codeOk (raC m r) := by
  rcases raC_code m r with h | h
  · rw [h]; exact .inl rfl
  · rw [h]; exact .inr (by decide)
abbrev RaS (w0 : World) (b o k : Nat) (m r : Int) (W : World) : Prop :=
  (W.cell? ⟨b, o + k * 2, none⟩ = some (.int .i64 m) ∧ W.cell? ⟨b, o + k * 2 + 1, none⟩ = some (.int .i64 r)) ∧ Below w0.heap.size w0 W
theorem raS_low {w0 W : World} {b o k : Nat} {m r : Int} (h : RaS w0 b o k m r W) : Below w0.heap.size w0 W := h.2
theorem raS_of {w0 W : World} {b o k : Nat} {m r : Int} (h : RaS w0 b o k m r w0) (hb : Below w0.heap.size w0 W) : RaS w0 b o k m r W := by
  refine ⟨⟨?_, ?_⟩, hb⟩
  · rw [World.cell?_of_block (w := w0) (hb.block _ (World.block_lt_of_cell? w0 _ h.1.1))]; exact h.1.1
  · rw [World.cell?_of_block (w := w0) (hb.block _ (World.block_lt_of_cell? w0 _ h.1.2))]; exact h.1.2
theorem below_trd {w0 W W' : World} {g : Nat} (hb : Below w0.heap.size w0 W) (ht : Trd (· = g) W W') (hg : w0.heap.size ≤ g) : Below w0.heap.size w0 W' :=
  hb.trans (ht.below (fun j hj => by rw [hj]; exact hg) hb.size)
def FxPlayRel (N g h : Nat) (w0 : World) (i : Value) (w : World) : Prop :=
  ∃ (k : Nat) (f : Nat → Int), k ≤ N ∧ i = .int .i64 (k : Int) ∧ RaAt w g raTy f ∧ RaAt w h raTyR f ∧ Below w0.heap.size w0 w
set_option maxRecDepth 100000 in
set_option maxHeartbeats 16000000 in
theorem walk_fxPlays (v : Value) (l : List RaDo) (x m : Int) (A : Nat → Addr) (w : World) (hr : Row raDoV 2 w v l) (hl : ∀ z ∈ l, RaDoBig z) (x0 : -9223372036854775808 ≤ x) (x1 : x ≤ 9223372036854775807) (m0 : -9223372036854775808 ≤ m) (m1 : m ≤ 9223372036854775807) (hS : Sents w A) :
    Calls Tryd.prog 3 #[v, .int .i64 x, .int .i64 m] w fun r w' => r = .returned (.bool true) ∧ Below w.heap.size w w' := by
  obtain ⟨va, vc, rfl⟩ := row_slice hr
  have hE := hidden (hS.on [2, 3, 5] (by decide))
  have hF := hidden (law13_first A w hE.out)
  by_cases h40 : (40 : Int) < (l.length : Int)
  · clear hr hl x0 x1 m0 m1 hS hE
    go_enter Tryd.func3, Tryd.ntmps3
    go_wp2_with fail
    refine hF.out.mono ?_
    rintro r w1 ⟨rfl, hb⟩
    replace hb := hidden hb
    go_wp2
    go_ret
    exact ⟨rfl, hb.out⟩
  · have h41 : l.length ≤ 40 := by omega
    have hx := hidden (fun k hk => rowRa_at hr k hk)
    have hI := hidden (fun k (hk : codeOk k) W (h : Below w.heap.size w W) => is_self A k W (hS.below h (Nat.le_refl _)) hk)
    have hbx := hidden (And.intro x0 x1)
    clear hr hl x0 x1 m0 m1 hS
    go_enter Tryd.func3, Tryd.ntmps3
    go_wp2_with fail
    refine hF.out.mono ?_
    rintro r w1 ⟨rfl, hb⟩
    clear hF
    have hg := hidden hb.size
    have hX := hidden ((raAt_new w1 raTy).below ((Below.refl _ _).alloc (Nat.le_refl _) (.cells #[.int .i64 0, .int .i64 0, .int .i64 0, .int .i64 0, .int .i64 0, .int .i64 0, .int .i64 0] raTyR)))
    have hY := raAt_new (w1.alloc (.cells #[.int .i64 0, .int .i64 0, .int .i64 0, .int .i64 0, .int .i64 0, .int .i64 0, .int .i64 0] raTy)) raTyR
    rw [show (w1.alloc (.cells #[.int .i64 0, .int .i64 0, .int .i64 0, .int .i64 0, .int .i64 0, .int .i64 0, .int .i64 0] raTy)).heap.size = w1.heap.size + 1 by simp] at hY
    replace hY := hidden hY
    replace hb := hidden ((hb.alloc hb.size (.cells #[.int .i64 0, .int .i64 0, .int .i64 0, .int .i64 0, .int .i64 0, .int .i64 0, .int .i64 0] raTy)).alloc (hb.alloc hb.size _).size (.cells #[.int .i64 0, .int .i64 0, .int .i64 0, .int .i64 0, .int .i64 0, .int .i64 0, .int .i64 0] raTyR))
    go_wp2_with fail
    go_loopw [10] (fun i wr => FxPlayRel l.length w1.heap.size (w1.heap.size + 1) w i wr) (fun i _ => l.length - (intOf i).toNat)
    case atStart => exact ⟨0, ra0, Nat.zero_le _, rfl, hX.out, hY.out, hb.out⟩
    case round =>
      clear hX hY hb
      obtain ⟨k, f, hk, rfl, hX, hY, hb⟩ := hrel
      have hne := hidden (show w1.heap.size + 1 ≠ w1.heap.size by omega)
      have hg1 := hidden (show w.heap.size ≤ w1.heap.size + 1 by have := hg.out; omega)
      generalize w1.heap.size + 1 = h at *
      generalize w1.heap.size = g at *
      by_cases hlt : k < l.length
      · obtain ⟨b, o, rfl, q0, q1⟩ := hx.out k hlt
        have hlI : (k : Int) < (l.length : Int) := by omega
        have hs0 := hidden (show RaS w b o k _ _ w from ⟨⟨q0, q1⟩, Below.refl _ _⟩)
        clear hx hbx q0 q1
        generalize l.getD k (0, 0) = e at *
        obtain ⟨em, er⟩ := e
        have hSet := hidden (fun W (hb : Below w.heap.size w W) hX => raSet_any A W g f em er hX ((hE.out.sub (by decide)).below hb (Nat.le_refl _)))
        have hRef := hidden (fun W hY => refRaSet_any W h f em er hY)
        have hIs := hidden (fun W h => hI.out _ (raC_ok em er) W h)
        unfold RaSetAt at hSet
        unfold RaRSetAt at hRef
        clear hI
        replace hX := hidden (hX.block (w' := wr.drew) rfl)
        replace hY := hidden (hY.block (w' := wr.drew) rfl)
        generalize raT f em er = f' at *
        generalize raC em er = cv at *
        have hs1 := hidden (raS_of hs0.out hb.drew)
        simp only at hs0 hs1
        go_wp2_with fail
        (go_region_held3 (fun W => (W.cell? ⟨b, o + k * 2, none⟩ = some (.int .i64 em) ∧ W.cell? ⟨b, o + k * 2 + 1, none⟩ = some (.int .i64 er)) ∧ Below w.heap.size w W)
          ((first | exact hs1.out | assumption | exact raS_of hs0.out ((raS_low (by assumption)).trans (hb5.mono (raS_low (by assumption)).size)) | exact raS_of hs0.out (below_trd (raS_low (by assumption)) ht5 hg.out) | exact raS_of hs0.out (below_trd (raS_low (by assumption)) ht6 hg1.out)))
          ((first
            | (go_at_call 7; (with_reducible refine (hSet.out _ (raS_low (by assumption)) hX.out).mono ?_); rintro e' w' ⟨rfl, hX5, ht5⟩; replace hY := hidden (hY.out.trd ht5 hne.out); replace hX := hidden hX5; clear hX5)
            | (go_at_call 8; (with_reducible refine (hRef.out _ hY.out).mono ?_); rintro e' w' ⟨rfl, hY6, ht6⟩; replace hX := hidden (hX.out.trd ht6 (Ne.symm hne.out)); replace hY := hidden hY6; clear hY6)
            | (go_at_call 6; (with_reducible refine (hIs.out _ (raS_low (by assumption))).mono ?_); rintro e' w' ⟨rfl, hb5⟩; replace hX := hidden (hX.out.below hb5); replace hY := hidden (hY.out.below hb5)))))
        rename_i hh
        have hend := hidden (raS_low hh)
        clear hh hs0 hs1 hSet hRef hIs
        go_wp2
        go_roundw
        case rel => exact ⟨k + 1, f', hlt, by go_num, hX.out, hY.out, hend.out⟩
        case measure => simp [intOf]; omega
      · obtain rfl : k = l.length := by omega
        replace hX := hidden hX
        replace hY := hidden hY
        replace hb := hidden hb
        clear hx hlt hk
        go_wp2_with fail
        obtain ⟨w3, rfl⟩ : ∃ w3, w3 = wr := ⟨_, rfl⟩
        have hG := hidden (fun W (hb : Below w3.heap.size w3 W) m => refRaGet_any W h f m (hY.out.below hb))
        go_loopw [11, 12] (fun v i wr => RaAllRel f w3 v i wr) (fun _ i _ => 7 - (RowKit.intOf i).toNat)
        case atStart => exact ⟨0, by omega, rfl, ⟨rfl, .inl ⟨rfl, rfl⟩⟩, Below.refl _ _⟩
        case round =>
          obtain ⟨k, hk, rfl, hown, hb2⟩ := hrel
          by_cases hlt : k < 6
          · have hkI : (k : Int) + 1 ≤ 6 := by omega
            have hl := hidden (raL_len f k)
            have hG1 := hidden (hG.out wr hb2 ((k : Int) + 1))
            replace hown := hidden hown
            replace hb2 := hidden hb2
            clear hG
            cases hx : raB f ((k : Int) + 1) with
            | true =>
              rw [hx] at hG1
              have hn := hidden (raL_yes hx)
              generalize raV f ((k : Int) + 1) = r at *
              clear hx
              go_wp2_with fail
              refine hG1.out.mono ?_
              rintro e w' ⟨rfl, rfl⟩
              clear hG1
              have hB := hidden hb2.out.size
              have hl6 := hidden (show (raL f k).length ≤ 1099511627776 by have := hl.out; omega)
              go_wp2_with (at_builtin; refine wpList_app1 rfl _ _ 36 rfl 3 Tryd.underlying36 infoRa rfl (by decide) w3.heap.size _ _ _ rfl hown.out _ rfl rfl hl6.out hB.out ?_)
              intro v2 w2 hown2 hb3
              replace hown2 := hidden hown2
              replace hb3 := hidden (hb2.out.trans hb3)
              go_wp2
              go_roundw
              case rel => exact ⟨k + 1, by omega, by go_num, by rw [hn.out]; unfold OwnRa; rw [List.length_append, List.map_append]; exact hown2.out, hb3.out⟩
              case measure => simp [RowKit.intOf]; omega
            | false =>
              rw [hx] at hG1
              have hn := hidden (raL_no hx)
              generalize raV f ((k : Int) + 1) = r at *
              clear hx
              go_wp2_with fail
              refine hG1.out.mono ?_
              rintro e w' ⟨rfl, rfl⟩
              clear hG1
              go_wp2
              go_roundw
              case rel => exact ⟨k + 1, by omega, by go_num, by rw [hn.out]; exact hown.out, hb2.out⟩
              case measure => simp [RowKit.intOf]; omega
          · obtain rfl : k = 6 := by omega
            have hW := hidden (reads_of_own hown)
            have hX2 := hidden (hX.out.below hb2)
            have hok := hidden hX.out.ok
            have hG1 := hidden (hG.out wr hb2 m)
            have hbq := hidden (hb.out.trans (hb2.mono hb.out.size))
            clear hown hb2 hk hlt hX hY hG hb
            go_wp2_with fail
            refine (raGet_any wr g f m hX2.out).mono ?_
            rintro r w6 ⟨rfl, rfl⟩
            go_wp2_with fail
            refine hG1.out.mono ?_
            rintro r w6 ⟨rfl, rfl⟩
            go_wp2_with fail
            refine (raBase_any A wr g f x m hX2.out (hE.out.below hbq.out (Nat.le_refl _)) hbx.out.1 hbx.out.2).mono ?_
            rintro r w6 ⟨rfl, n, rfl⟩
            have hX3 := hidden (hX2.out.block (w' := wr.drewN n) rfl)
            have hb3 := hidden (below_drewN (m := n) hbq.out)
            have hW3 := hidden (hW.out.same (w' := wr.drewN n) fun _ _ => rfl)
            clear hW hX2 hbq hG1 hE
            generalize wr.drewN n = w4 at *
            go_wp2_with fail
            refine (raAll_any w4 g f hX3.out).mono ?_
            rintro r w5 ⟨v5, rfl, hown5, hb5⟩
            have hW5 := hidden (reads_of_own hown5)
            have hW4 := hidden (hW3.out.below hb5 (Nat.le_refl _))
            have hb6 := hidden (hb3.out.trans (hb5.mono hb3.out.size))
            clear hown5 hb5 hW3 hb3 hX3
            go_wp2_with fail
            refine (sameInts_any _ _ _ _ w5 hW5.out hW4.out (by have := raL_len f 6; omega)).mono ?_
            rintro r w7 ⟨rfl, n2, rfl⟩
            have hb7 := hidden (below_drewN (m := n2) hb6.out)
            rw [show decide (raL f 6 = raL f 6) = true by simp]
            clear hW4 hW5 hb6
            generalize w5.drewN n2 = w6 at *
            cases hB : raB f m with
            | false =>
              rw [show raBV f x m = 0 by unfold raBV; rw [hB]; rfl, show raBC f x m = 106 by unfold raBC; rw [hB]; rfl]
              have hI6 := hidden (hI.out 106 (.inr (by decide)) w6 hb7.out)
              clear hB hI
              go_wp2_with fail
              refine hI6.out.mono ?_
              rintro r w8 ⟨rfl, hb8⟩
              replace hb8 := hidden (hb7.out.trans (hb8.mono hb7.out.size))
              go_wp2
              go_ret
              exact ⟨rfl, hb8.out⟩
            | true =>
              have e1 : raBV f x m = raCap x (raV f m) := by unfold raBV; rw [hB]; rfl
              have e2 : raBC f x m = raCapC x (raV f m) := by unfold raBC; rw [hB]; rfl
              have hI6 := hidden (fun W (h : Below w.heap.size w W) => hI.out (raCapC x (raV f m)) (capC_ok _ _ _ _ _) W h)
              have hR := hidden (fun W => show Calls Tryd.prog 14 #[.int .i64 x, .int .i64 (raV f m)] W (fun e w' => e = .returned (.tuple #[.int .i64 (raCap x (raV f m)), .int .i64 (raCapC x (raV f m))]) ∧ W = w') from refBase_any x (raV f m) W hbx.out.1 hbx.out.2 (by have := (hok.out.val m).1; omega) (by have := (hok.out.val m).2; omega))
              rw [e1, e2]
              clear e1 e2 hB hI hbx hok
              generalize raCap x (raV f m) = cv at *
              generalize raCapC x (raV f m) = cc at *
              generalize raV f m = r at *
              go_wp2_with fail
              refine (hR.out _).mono ?_
              rintro r w8 ⟨rfl, rfl⟩
              go_wp2_with fail
              refine (hI6.out _ hb7.out).mono ?_
              rintro r w8 ⟨rfl, hb8⟩
              replace hb8 := hidden (hb7.out.trans (hb8.mono hb7.out.size))
              go_wp2
              go_ret
              exact ⟨rfl, hb8.out⟩
end Go.Proofs.YtlgpckgedkbpiaaDoor
