/-
  Sum, Of, All.
-/
import Derived.Test.YteinajoiambigaaDoorHold1
import Derived.Test.YteinajoiambigaaDoorRow
namespace Go.Proofs.YteinajoiambigaaDoor
open Go.RowKit Go.Maps
set_option linter.unusedVariables false

def HoSumRel (T : HTab) (a : Int) (w0 : World) (v i : Value) (w : World) : Prop := ∃ k : Nat, k ≤ 32 ∧ v = .int .i64 (sumHK T a k) ∧ i = .int .i64 ((k : Int) + 1) ∧ Below w0.heap.size w0 w
set_option maxHeartbeats 1600000 in
theorem hoSum_any (w : World) (B g n : Nat) (T : HTab) (h : HoAt w B g n T) (a : Int) (h1 : -9223372036854775808 ≤ a) (h2 : a ≤ 9223372036854775807) :
    Calls Tryd.prog 9 #[.pointer (some ⟨g, 0, none⟩), .int .i64 a] w fun e w' => e = .returned (.int .i64 (sumH T a)) ∧ Below w.heap.size w w' := by
  have hG := hidden (fun W (hb : Below w.heap.size w W) s hs => hoGet_any W B g n T (h.below hb (Nat.le_refl _)) s hs)
  have hT := hidden h.ho
  have ha := hidden (And.intro h1 h2)
  clear h h1 h2
  go_enter Tryd.func9, Tryd.ntmps9
  go_wp2_with fail
  go_loopw [5, 6] (fun v i wr => HoSumRel T a w v i wr) (fun _ i _ => 33 - (RowKit.intOf i).toNat)
  case atStart => exact ⟨0, by omega, rfl, rfl, Below.refl _ _⟩
  case round =>
    obtain ⟨k, hk, rfl, rfl, hb⟩ := hrel
    by_cases hlt : k < 32
    · have hkI : (k : Int) + 1 ≤ 32 := by omega
      have hG1 := hidden (hG.out wr hb ((k : Int) + 1, a) (by have := ha.out; unfold spIn; simp only; omega))
      have hq := hT.out.get ((k : Int) + 1, a)
      have hs := sumHK_bd hT.out a k
      have hn := hidden (show sumHK T a (k + 1) = sumHK T a k + getQ T ((k : Int) + 1, a) from rfl)
      replace hb := hidden hb
      clear hG
      generalize getQ T ((k : Int) + 1, a) = x at *
      generalize sumHK T a k = y at *
      go_wp2_with fail
      refine hG1.out.mono ?_
      rintro e w' ⟨rfl, hb2⟩
      replace hb := hidden (hb.out.trans (hb2.mono hb.out.size))
      clear hG1 hb2
      go_wp2
      go_roundw
      case rel => exact ⟨k + 1, by omega, by rw [hn.out], by go_num, hb.out⟩
      case measure => simp [RowKit.intOf] <;> omega
    · obtain rfl : k = 32 := by omega
      replace hb := hidden hb
      go_wp2
      go_ret
      exact ⟨rfl, hb.out⟩

def holV (x : HolT) : List Value := [.int .i64 x.1.1, .int .i64 x.1.2, .int .i64 x.2]
theorem holV_len (x : HolT) : (holV x).length = 3 := rfl
theorem holV_one (x : HolT) : ∀ u ∈ holV x, u.oneCell' = true := fun u hu => by
  simp only [holV, List.mem_cons, List.not_mem_nil, or_false] at hu
  rcases hu with rfl | rfl | rfl <;> rfl
theorem infoHol : (Tryd.prog.info? 40).map (fun i => (i.zero, i.size, i.bytes)) = some (some (.agg #[.int .i64 0, .int .i64 0, .int .i64 0]), 3, 24) := by kernel_rfl
abbrev OwnHol (B : Nat) (w : World) (v : Value) (l : List HolT) : Prop := OwnR holV 3 40 B w v l
def HoOfRel (T : HTab) (m : Int) (w0 : World) (v i : Value) (w : World) : Prop := ∃ k : Nat, k ≤ 32 ∧ i = .int .i64 ((k : Int) + 1) ∧ OwnHol w0.heap.size w v (ofHK T m k) ∧ Below w0.heap.size w0 w
def HoListAt (l : List HolT) (w : World) (e : Ending) (w' : World) : Prop := ∃ v, e = .returned v ∧ OwnHol w.heap.size w' v l ∧ Below w.heap.size w w'
set_option maxRecDepth 100000 in
set_option maxHeartbeats 3200000 in
theorem hoOf_any (w : World) (B g n : Nat) (T : HTab) (h : HoAt w B g n T) (m : Int) (h1 : -9223372036854775808 ≤ m) (h2 : m ≤ 9223372036854775807) :
    Calls Tryd.prog 13 #[.pointer (some ⟨g, 0, none⟩), .int .i64 m] w (HoListAt (ofH T m) w) := by
  have hG := hidden (fun W (hb : Below w.heap.size w W) s hs => hoGet_any W B g n T (h.below hb (Nat.le_refl _)) s hs)
  have hm := hidden (And.intro h1 h2)
  clear h h1 h2
  go_enter Tryd.func13, Tryd.ntmps13
  go_wp2_with fail
  go_loopw [5, 6] (fun v i wr => HoOfRel T m w v i wr) (fun _ i _ => 33 - (RowKit.intOf i).toNat)
  case atStart => exact ⟨0, by omega, rfl, OwnR.nil _ _ _, Below.refl _ _⟩
  case round =>
    obtain ⟨k, hk, rfl, hown, hb⟩ := hrel
    by_cases hlt : k < 32
    · have hkI : (k : Int) + 1 ≤ 32 := by omega
      have hb1 := hb.alloc hb.size (sptO (m, (k : Int) + 1))
      have hG1 := hidden (hG.out _ hb1 (m, (k : Int) + 1) (by have := hm.out; unfold spIn; simp only; omega))
      have hlk := hidden (show (ofHK T m k).length ≤ 1000000 by have := ofHK_le T m k; omega)
      have hn := hidden (show ofHK T m (k + 1) = ofHK T m k ++ (if getQ T (m, (k : Int) + 1) = 0 then [] else [((m, (k : Int) + 1), getQ T (m, (k : Int) + 1))]) from rfl)
      replace hown := hidden (hown.alloc (sptO (m, (k : Int) + 1)))
      have hc := hidden (heap_alloc_new wr (sptO (m, (k : Int) + 1)))
      replace hb := hidden hb1
      clear hG hb1
      generalize getQ T (m, (k : Int) + 1) = x at *
      by_cases hx : x = 0
      · subst hx
        go_wp2_with fail
        refine hG1.out.mono ?_
        rintro e w' ⟨rfl, hb2⟩
        replace hown := hidden (hown.out.below hb2 (Nat.le_refl _))
        replace hb := hidden (hb.out.trans (hb2.mono hb.out.size))
        clear hG1 hb2 hc
        go_wp2
        go_roundw
        case rel => exact ⟨k + 1, by omega, by go_num, by rw [hn.out]; simpa using hown.out, hb.out⟩
        case measure => simp [RowKit.intOf]; omega
      · rw [if_neg hx] at hn
        have hxb : (x == 0) = false := by simpa using hx
        replace hx := hidden hx
        go_wp2_with fail
        refine hG1.out.mono ?_
        rintro e w' ⟨rfl, hb2⟩
        replace hown := hidden (hown.out.below hb2 (Nat.le_refl _))
        replace hb := hidden (hb.out.trans (hb2.mono hb.out.size))
        have hc2 := (hb2.block _ (by simp)).trans hc.out
        have k0 : w'.cell? ⟨wr.heap.size, 0, none⟩ = some (.int .i64 m) := by rw [cell_of_row _ _ _ _ _ _ hc2]; rfl
        have k1 : w'.cell? ⟨wr.heap.size, 1, none⟩ = some (.int .i64 ((k : Int) + 1)) := by rw [cell_of_row _ _ _ _ _ _ hc2]; rfl
        have hBr := hidden hb.out.size
        clear hG1 hb2 hc hc2
        go_wp2_with (at_builtin; refine wpList_appR1 rfl _ _ 37 rfl holV_len holV_one (by decide) 40 Tryd.underlying37 infoHol rfl (by decide) w.heap.size _ (ofHK T m k) rfl hown.out ((m, (k : Int) + 1), x) _ rfl _ rfl (by simp) hlk.out hBr.out ?_)
        intro v2 w2 hown2 hb2
        replace hown2 := hidden hown2
        replace hb2 := hidden (hb.out.trans hb2)
        go_wp2
        go_roundw
        case rel => exact ⟨k + 1, by omega, by go_num, by rw [hn.out]; exact hown2.out, hb2.out⟩
        case measure => simp [RowKit.intOf]; omega
    · obtain rfl : k = 32 := by omega
      replace hown := hidden hown
      replace hb := hidden hb
      go_wp2
      go_ret
      exact ⟨_, rfl, hown.out, hb.out⟩
def HoAllRel (T : HTab) (w0 : World) (v i : Value) (w : World) : Prop := ∃ k : Nat, k ≤ 32 ∧ i = .int .i64 ((k : Int) + 1) ∧ OwnHol w0.heap.size w v (allHK T k) ∧ Below w0.heap.size w0 w
set_option maxRecDepth 100000 in
set_option maxHeartbeats 3200000 in
theorem hoAll_any (w : World) (B g n : Nat) (T : HTab) (h : HoAt w B g n T) :
    Calls Tryd.prog 11 #[.pointer (some ⟨g, 0, none⟩)] w (HoListAt (allH T) w) := by
  have hO := hidden (fun W (hb : Below w.heap.size w W) m h1 h2 => hoOf_any W B g n T (h.below hb (Nat.le_refl _)) m h1 h2)
  clear h
  go_enter Tryd.func11, Tryd.ntmps11
  go_wp2_with fail
  go_loopw [3, 4] (fun v i wr => HoAllRel T w v i wr) (fun _ i _ => 33 - (RowKit.intOf i).toNat)
  case atStart => exact ⟨0, by omega, rfl, OwnR.nil _ _ _, Below.refl _ _⟩
  case round =>
    obtain ⟨k, hk, rfl, hown, hb⟩ := hrel
    by_cases hlt : k < 32
    · have hkI : (k : Int) + 1 ≤ 32 := by omega
      have hO1 := hidden (hO.out wr hb ((k : Int) + 1) (by omega) (by omega))
      have hlk := hidden (show (allHK T k).length ≤ 1000000 by have := allHK_le T k; omega)
      have hlm := hidden (show (ofH T ((k : Int) + 1)).length ≤ 1000000 by have := ofH_le T ((k : Int) + 1); omega)
      have hn := hidden (show allHK T (k + 1) = allHK T k ++ ofH T ((k : Int) + 1) from rfl)
      replace hown := hidden hown
      replace hb := hidden hb
      clear hO
      go_wp2_with fail
      refine hO1.out.mono ?_
      rintro e w' ⟨v2, rfl, hown2, hb2⟩
      have hrow := hidden (hown2.row holV_len)
      replace hown := hidden (hown.out.below hb2 (Nat.le_refl _))
      replace hb := hidden (hb.out.trans (hb2.mono hb.out.size))
      have hBr := hidden hb.out.size
      clear hO1 hown2 hb2
      go_wp2_with (at_builtin; refine wpList_appR rfl _ _ 37 rfl holV_len holV_one (by decide) 40 Tryd.underlying37 infoHol rfl (by decide) w.heap.size _ (allHK T k) rfl hown.out rfl hrow.out hlk.out hlm.out hBr.out ?_)
      intro v3 w3 hown3 hb3
      replace hown3 := hidden hown3
      replace hb3 := hidden (hb.out.trans hb3)
      go_wp2
      go_roundw
      case rel => exact ⟨k + 1, by omega, by go_num, by rw [hn.out]; exact hown3.out, hb3.out⟩
      case measure => simp [RowKit.intOf]; omega
    · obtain rfl : k = 32 := by omega
      replace hown := hidden hown
      replace hb := hidden hb
      go_wp2
      go_ret
      exact ⟨_, rfl, hown.out, hb.out⟩
end Go.Proofs.YteinajoiambigaaDoor
