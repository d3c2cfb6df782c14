/-
  pledgeref.SameLongs: are two lists of numbers of 64 bits the same?
-/
import Derived.Test.YtlanggdmdpjfbaaDoorSee
namespace Go.Proofs.YtlanggdmdpjfbaaDoor
open Go.RowKit

def SameLRel (xs ys : List Int) (w : World) (i : Value) (wr : World) : Prop :=
  ∃ k : Nat, i = .int .i64 (k : Int) ∧ k ≤ xs.length ∧ xs.take k = ys.take k ∧ ∃ m, wr = w.drewN m

set_option maxHeartbeats 1600000 in
/-- SameLongs: are the lists the same? -/
theorem sameLongs_any (v u : Value) (xs ys : List Int) (w : World) (h : Reads .i64 w v xs) (h2 : Reads .i64 w u ys) (hx : xs.length ≤ 1000000000) :
    Calls Tryd.prog 19 #[v, u] w fun e w' => e = .returned (.bool (decide (xs = ys))) ∧ ∃ m, w' = w.drewN m := by
  have hr := hidden h
  have hr2 := hidden h2
  obtain ⟨a, n, c, rfl, en, hnc, hcm, hn, _⟩ := h
  obtain ⟨a2, n2, c2, rfl, en2, hnc2, hcm2, hn2, _⟩ := h2
  subst en
  subst en2
  clear hn hn2
  by_cases hlen : xs.length = ys.length
  · have hne : ((xs.length : Int) != (ys.length : Int)) = false := by rw [hlen]; simp
    have hlen' := hidden hlen
    clear hlen
    go_enter Tryd.func19, Tryd.ntmps19
    go_wp2_with fail
    go_loopw [5] (fun i wr => SameLRel xs ys w i wr) (fun i _ => xs.length - (RowKit.intOf i).toNat)
    case atStart => exact ⟨0, rfl, Nat.zero_le _, by simp, 0, rfl⟩
    case round =>
      obtain ⟨k, rfl, hk, htk, m, rfl⟩ := hrel
      have htk' := hidden htk
      clear htk
      by_cases hlt : k < xs.length
      · have hlt2 : k < ys.length := by have := hlen'.out; omega
        obtain ⟨bl, ol, rfl, hc⟩ := hr.out.cell k hlt
        obtain ⟨bl2, ol2, rfl, hc2⟩ := hr2.out.cell k hlt2
        have hlt3 : (k : Int) < (xs.length : Int) := by omega
        have hlt4 : (k : Int) < (ys.length : Int) := by omega
        have ht1 := hidden (take_next xs k hlt)
        have ht2 := hidden (take_next ys k hlt2)
        have hx1 := hidden (show xs[k]? = some (xs.getD k 0) by rw [List.getD_eq_getElem?_getD, List.getElem?_eq_getElem hlt]; rfl)
        have hx2 := hidden (show ys[k]? = some (ys.getD k 0) by rw [List.getD_eq_getElem?_getD, List.getElem?_eq_getElem hlt2]; rfl)
        generalize xs.getD k 0 = x at hc ht1 hx1
        generalize ys.getD k 0 = y at hc2 ht2 hx2
        by_cases hxy : x = y
        · subst hxy
          have hbb : (x == x) = true := beq_self_eq_true x
          go_wp2_with fail
          go_quiet (fail)
          go_wp2
          go_roundw
          case rel => exact ⟨k + 1, by go_num, hlt, by rw [ht1.out, ht2.out, htk'.out], _, rfl⟩
          case measure => simp [RowKit.intOf]; omega
        · have hbb : (x == y) = false := by rw [beq_eq_false_iff_ne]; exact hxy
          have hfin := hidden (show decide (xs = ys) = false by
            rw [decide_eq_false_iff_not]
            intro e
            rw [e] at hx1
            have := hx1.out.symm.trans hx2.out
            exact hxy (Option.some.inj this))
          clear hxy
          go_wp2_with fail
          go_quiet (fail)
          go_wp2
          go_ret
          exact ⟨by rw [hfin.out]; rfl, _, rfl⟩
      · have hfin := hidden (show decide (xs = ys) = true by
          rw [decide_eq_true_iff]
          have e1 : xs.take k = xs := List.take_of_length_le (by omega)
          have e2 : ys.take k = ys := List.take_of_length_le (by have := hlen'.out; omega)
          rw [← e1, ← e2]; exact htk'.out)
        go_wp2
        go_ret
        exact ⟨by rw [hfin.out]; rfl, m, rfl⟩
  · have hne : ((xs.length : Int) != (ys.length : Int)) = true := by rw [bne_iff_ne]; omega
    have hfin := hidden (show decide (xs = ys) = false by
      rw [decide_eq_false_iff_not]
      intro e
      exact hlen (by rw [e]))
    clear hlen
    go_enter Tryd.func19, Tryd.ntmps19
    go_wp2
    go_ret
    exact ⟨by rw [hfin.out]; rfl, 0, rfl⟩

end Go.Proofs.YtlanggdmdpjfbaaDoor
