import Derived.Test.YtemjfncfhipjoaaFixLaw
import Derived.Test.YtemjfncfhipjoaaNumber
import Derived.Test.YtemjfncfhipjoaaStep
namespace Go.Proofs.Ytemjfncfhipjoaa
open Go.RowKit

theorem total_append (l m : List Int) : total (l ++ m) = total l + total m := by
  unfold total
  rw [List.foldl_append]
  generalize l.foldl (· + ·) 0 = x
  induction m generalizing x with
  | nil => simp
  | cons y m ih => rw [List.foldl_cons, List.foldl_cons, ih, ih (0 + y)]; omega
theorem total_rot (l : List Int) (k : Nat) : total (l.drop k ++ l.take k) = total l := by
  rw [total_append]
  have : total l = total (l.take k) + total (l.drop k) := by rw [← total_append, List.take_append_drop]
  omega
theorem total_neg (l : List Int) : total (l.map fun x => -x) = -total l := by
  induction l with
  | nil => rfl
  | cons x l ih =>
    have e1 := total_append [-x] (l.map fun x => -x)
    have e2 := total_append [x] l
    have h : ∀ y : Int, total [y] = y := fun y => by simp [total]
    rw [h] at e1 e2
    simp only [List.map_cons]
    rw [List.singleton_append] at e1 e2
    rw [e1, e2, ih]; omega
theorem reads_drop {k : IntKind} {w : World} {b o n c m : Nat} {xs : List Int} (h : Reads k w (.slice (some ⟨b, o, none⟩) n c) xs) (hm : m ≤ n) : Reads k w (.slice (some ⟨b, o + m, none⟩) (n - m) (c - m)) (xs.drop m) := by
  obtain ⟨a', len, cap, e, h1, h2, h3, h4, h5⟩ := h
  simp only [Value.slice.injEq] at e
  obtain ⟨rfl, rfl, rfl⟩ := e
  refine ⟨_, n - m, c - m, rfl, by simp; omega, by omega, by omega, (fun h => by cases h), fun ad had i hi => ?_⟩
  obtain rfl := Option.some.inj had
  obtain ⟨h6, h7⟩ := h5 _ rfl (m + i) (by omega)
  refine ⟨rfl, ?_⟩
  show w.cell? ⟨b, o + m + i, none⟩ = _
  rw [Nat.add_assoc]
  rw [h7]
  simp [List.getD_eq_getElem?_getD]

theorem infoI : (Try.prog.info? 2).map (fun i => (i.zero, i.size, i.bytes)) = some (some (.int .i64 0), 1, 8) := by kernel_rfl
theorem emptyI (w : World) : (Instr.buildSlice 22 0 #[]).run Try.prog w = .ok (.slice (some ⟨w.heap.size, 0, none⟩) 0 0) (w.alloc (.cells #[] 2)) := by kernel_rfl

def iv (l : List Int) : List Value := l.map (Value.int .i64)
theorem iv_nil : iv [] = [] := rfl
theorem iv_snoc (l : List Int) (x : Int) : iv (l ++ [x]) = iv l ++ [.int .i64 x] := by simp [iv]
def negs (l : List Int) : List Int := l.map fun x => -x
theorem negs_snoc (l : List Int) (x : Int) : negs (l ++ [x]) = negs l ++ [-x] := by simp [negs]
def CopyI (z : List Int) (w : World) (v i : Value) (wr : World) : Prop :=
  ∃ q : Nat, i = .int .i64 (q : Int) ∧ q ≤ z.length ∧ wr.ownsRow w.heap.size 2 1 v q (iv (z.take q)) ∧ Below w.heap.size w wr
def NegI (z : List Int) (w : World) (v i : Value) (wr : World) : Prop :=
  ∃ q : Nat, i = .int .i64 (q : Int) ∧ q ≤ z.length ∧ wr.ownsRow w.heap.size 2 1 v (z.length + q) (iv (z ++ negs (z.take q))) ∧ Below w.heap.size w wr ∧ ∀ y ∈ z.take q, y ≠ -9223372036854775808

set_option maxHeartbeats 4000000 in
theorem walk_fixSums (v : Value) (z : List Int) (n : Int) (w : World) (h : Reads .i64 w v z) (hz : ∀ x ∈ z, -9223372036854775808 ≤ x ∧ x ≤ 9223372036854775807) (hn : -9223372036854775808 ≤ n) (hn2 : n ≤ 9223372036854775807) :
    Calls Try.prog 7 #[v, .int .i64 n] w fun e w' => e = .returned (.bool true) ∧ Below w.heap.size w w' := by
  have hr := hidden h
  obtain ⟨s, len, cp, rfl, en, hnc, hcm, hnn, _⟩ := h
  subst en
  have hzz := hidden hz
  clear hnn hz
  have hi := infoI
  by_cases hlen : 40 < z.length
  · go_enter Try.func7, Try.ntmps7
    go_wp2_with (go_at_call 8; refine (law2_first _).mono ?_; rintro e w' ⟨rfl, k, rfl⟩)
    go_ret
    exact ⟨rfl, below_drewN (Below.refl _ _)⟩
  by_cases hl00 : z.length = 0
  · have e0 : ((z.length : Int) == 0) = true := by rw [hl00]; rfl
    go_enter Try.func7, Try.ntmps7
    go_wp2_with (go_at_call 8; refine (law2_first _).mono ?_; rintro e w' ⟨rfl, k, rfl⟩)
    go_ret
    exact ⟨rfl, below_drewN (Below.refl _ _)⟩
  · have hl0 : 0 < z.length := by omega
    have hl1 : z.length ≤ 40 := by omega
    have e0 : ((z.length : Int) == 0) = false := by rw [beq_eq_false_iff_ne]; omega
    obtain ⟨b, o, rfl, _⟩ := hr.out.cell 0 hl0
    have kb := emptyI
    obtain ⟨k, hk⟩ : ∃ k : Nat, n % (z.length : Int) = k := ⟨(n % (z.length : Int)).toNat, by have := Int.emod_nonneg n (show (z.length : Int) ≠ 0 by omega); omega⟩
    have hk2 : k < z.length := by have := Int.emod_lt_of_pos n (show 0 < (z.length : Int) by omega); omega
    have hkc : ¬ cp = k := by omega
    have hk3 : (0 : Int) ≤ (k : Int) := by omega
    have hk4 : (k : Int) ≤ (z.length : Int) := by omega
    have hk5 : (k : Int) ≤ (cp : Int) := by omega
    clear hlen hl00
    have hb0 := fun j => hidden (below_drewN (m := j) (Below.refl w.heap.size w))
    go_enter Try.func7, Try.ntmps7
    go_wp2_with (first
      | (go_at_call 8; refine (law2_first _).mono ?_; rintro e w' ⟨rfl, j, rfl⟩)
      | (go_at_call 23; refine (number_any _ _ _ (by omega) (by omega) (by omega) (by omega)).mono ?_; rintro e w' ⟨rfl, rfl⟩))
    have hb1 := (hb0 j).out
    clear hb0
    go_region_held3 (fun w' => Below w.heap.size w w')
      ((first | exact hb1 | exact hb1.drew | exact hb1.drew.alloc (Nat.le_refl _) _ | assumption | exact Below.trans (by assumption) hbx1 | exact Below.trans (by assumption) hbx2))
      ((first
        | (refine step_app (by rfl) _ _ _ (by rfl) 2 Try.underlying22 infoI (by rfl) (by decide) w.heap.size _ 0 [] (by rfl) (World.ownsRow_made _ #[] 0 (Nat.le_refl _) (by decide) (by rfl)) (k := .i64) (by rfl) (reads_drop (m := k) (hr.out.below (by assumption) (Nat.le_refl _)) (by omega)) (by omega) (by simp; omega) (by simp) ?_; intro v1 w1 hown1 hbx1)
        | (refine step_app (by rfl) _ _ _ (by rfl) 2 Try.underlying22 infoI (by rfl) (by decide) w.heap.size v1 _ _ (by rfl) hown1 (k := .i64) (by rfl) (reads_take (m := k) (hr.out.below (by assumption) (Nat.le_refl _)) (by omega)) (by simp; omega) (by simp; omega) (Below.size (by assumption)) ?_; intro v2 w2 hown2 hbx2)))
    have hB2 : Below w.heap.size w w2 := by assumption
    have hm := reads_of_own (k := .i64) (xs := z.drop k ++ z.take k) (n := 0 + (z.drop k).length + (z.take k).length) (by simpa using hown2)
    have hm' := hidden hm
    have hB2' := hidden hB2
    have hz2 := hidden (hr.out.below hB2 (Nat.le_refl _))
    have htot := total_rot z k
    have hmb := hidden (show ∀ x ∈ z.drop k ++ z.take k, -9223372036854775808 ≤ x ∧ x ≤ 9223372036854775807 from fun x hx => by
      rcases List.mem_append.1 hx with h | h
      · exact hzz.out x (List.mem_of_mem_drop h)
      · exact hzz.out x (List.mem_of_mem_take h))
    have hml := hidden (show (z.drop k ++ z.take k).length ≤ 1000000000 by simp; omega)
    clear hm hB2 hown1 hown2 hbx1 hbx2 kb hi hb1
    go_wp2_with fail
    with_reducible refine (sum_any _ z _ hz2.out (by omega) hzz.out).mono ?_
    rintro e w' ⟨rfl, rfl⟩
    go_wp2_with fail
    with_reducible refine (sum_any _ (z.drop k ++ z.take k) _ hm'.out hml.out hmb.out).mono ?_
    rintro e w' ⟨rfl, rfl⟩
    go_wp2_with fail
    go_loopw [12, 13] (fun v i wr => CopyI z w v i wr) (fun _ i _ => z.length - (intOf i).toNat)
    case atStart => exact ⟨0, rfl, Nat.zero_le _, by simpa [iv] using World.ownsRow_nil _ _ _ _, hB2'.out⟩
    case round =>
      obtain ⟨q, rfl, hq, hownq, hbq⟩ := hrel
      have hbq' := hidden hbq
      have hBq := hbq.size
      by_cases hlt : q < z.length
      · obtain ⟨bl, ol, e1, hc⟩ := (hr.out.below hbq (Nat.le_refl _)).cell q hlt
        simp only [Option.some.injEq, Addr.mk.injEq, and_true] at e1
        obtain ⟨rfl, rfl⟩ := e1
        have htk := hidden (take_snoc0 z q hlt)
        generalize z.getD q 0 = x at hc htk
        clear hbq
        go_wp2_with (at_builtin; refine wpList_app1 rfl _ _ 22 rfl 2 Try.underlying22 infoI rfl (by decide) w.heap.size _ _ _ rfl hownq _ rfl rfl ?_ hBq ?_)
        case _ => omega
        intro v3 w3 hown3 hb3
        go_wp2
        go_roundw
        case rel => exact ⟨q + 1, by go_num, hlt, by rw [htk.out, iv_snoc]; exact hown3, hbq'.out.trans hb3⟩
        case measure => simp [intOf]; omega
      · obtain rfl : q = z.length := by omega
        rw [List.take_length] at hownq
        have hown' := hidden hownq
        clear hownq hbq
        go_wp2_with fail
        go_loopw [12, 14] (fun v i wr => NegI z w v i wr) (fun _ i _ => z.length - (intOf i).toNat)
        case atStart => exact ⟨0, rfl, Nat.zero_le _, by simpa [negs] using hown'.out, hbq'.out, by simp⟩
        case round =>
          obtain ⟨p, rfl, hp, hownp, hbp, hmin⟩ := hrel
          have hbp' := hidden hbp
          have hBp := hbp.size
          replace hmin := hidden hmin
          by_cases hlt2 : p < z.length
          · obtain ⟨bl, ol, e1, hc⟩ := (hr.out.below hbp (Nat.le_refl _)).cell p hlt2
            simp only [Option.some.injEq, Addr.mk.injEq, and_true] at e1
            obtain ⟨rfl, rfl⟩ := e1
            have htk := hidden (take_snoc0 z p hlt2)
            have hx' : z.getD p 0 ∈ z := by rw [List.getD_eq_getElem?_getD, List.getElem?_eq_getElem hlt2]; exact List.getElem_mem hlt2
            obtain ⟨n0, n1⟩ := hzz.out _ hx'
            clear hx'
            generalize z.getD p 0 = x at hc htk n0 n1
            clear hbp
            by_cases hxm : x = -9223372036854775808
            · have hxb : (x == -9223372036854775808) = true := by simpa using hxm
              clear hxm
              go_wp2_with fail
              go_ret
              exact ⟨rfl, hbp'.out⟩
            · have hxb : (x == -9223372036854775808) = false := by simpa using hxm
              have hx1 : -9223372036854775807 ≤ x := by omega
              have hxm' := hidden hxm
              clear hxm
              go_wp2_with (at_builtin; refine wpList_app1 rfl _ _ 22 rfl 2 Try.underlying22 infoI rfl (by decide) w.heap.size _ _ _ rfl hownp _ rfl rfl ?_ hBp ?_)
              case _ => omega
              intro v3 w3 hown3 hb3
              go_wp2_with fail
              go_roundw
              case rel =>
                refine ⟨p + 1, by go_num, hlt2, ?_, hbp'.out.trans hb3, ?_⟩
                · rw [htk.out, negs_snoc, ← List.append_assoc, iv_snoc]
                  exact hown3
                · rw [htk.out]
                  intro y hy
                  rcases List.mem_append.1 hy with h | h
                  · exact hmin.out y h
                  · simp at h; subst h; exact hxm'.out
              case measure => simp [intOf]; omega
          · obtain rfl : p = z.length := by omega
            replace hmin := hidden (show ∀ y ∈ z, y ≠ -9223372036854775808 by have := hmin.out; rw [List.take_length] at this; exact this)
            rw [List.take_length] at hownp
            have hrd := reads_of_own (k := .i64) (xs := z ++ negs z) hownp
            have hrd' := hidden hrd
            have hnb := hidden (show ∀ x ∈ (z ++ negs z), -9223372036854775808 ≤ x ∧ x ≤ 9223372036854775807 from fun x hx => by
              rcases List.mem_append.1 hx with h | h
              · exact hzz.out x h
              · obtain ⟨y, hy, rfl⟩ := List.mem_map.1 h
                have h1 := hzz.out y hy
                have h2 := hmin.out y hy
                omega)
            have hnl := hidden (show (z ++ negs z).length ≤ 1000000000 by simp [negs]; omega)
            have t0 : total (z ++ negs z) = 0 := by rw [total_append, negs, total_neg]; omega
            have t1 : in64 0 = true := by decide
            have t2 : cap64 0 = 0 := by decide
            clear hownp hrd hbp
            go_wp2_with fail
            with_reducible refine (sum_any _ (z ++ negs z) _ hrd'.out hnl.out hnb.out).mono ?_
            rintro e w' ⟨rfl, rfl⟩
            go_wp2
            go_ret
            exact ⟨rfl, hbp'.out⟩
end Go.Proofs.Ytemjfncfhipjoaa
